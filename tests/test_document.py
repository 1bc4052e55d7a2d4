"""The examples of the document, and those of the README."""

import doctest
import unittest
from pathlib import Path

from caseflow.algebra.siphons import (
    empty_siphon, empty_trap, is_siphon, is_trap, largest_siphon, largest_trap,
)
from caseflow.algebra.weightings import (
    are_counts, are_growing_counts, are_rising_weights, counts_basis, effect, effect_rank, growing_counts,
    is_weighting, positive_counts, positive_weighting, rising_weights, weighting_basis,
)
from caseflow.nets.clusters import cluster_of, clusters, steps_into, steps_out_of
from caseflow.nets.nets import (
    inputs_of, is_net, is_workflow, make_net, net_defects, outputs_of, step_names,
)
from caseflow.nets.runs import (
    all_runs, enabled_clusters, enabled_steps, first_marking, is_complete, is_marking, is_run,
    last_marking, marking_after, markings_on, reachable_markings,
)
from caseflow.nets.walks import Walk
from caseflow.sound.tables import finish_table, is_finish_table
from tests.samples import B, C, D, F, L, P, outcome, same


class Examples(unittest.TestCase):

    def shows(self, result, expected):
        self.assertTrue(same(result, expected), (result, expected))

    def test_nets_and_workflows(self):
        self.shows([is_net(F), is_workflow(F), is_workflow(B), is_net((2, ()))], [True, True, True, False])

    def test_make_net(self):
        made = make_net(3, ("stop", (2, 2), (1,)), ("begin", (0,), (2,)), ("again", (2,), (2,)))
        self.shows(made, C)

    def test_net_defects(self):
        self.shows(
            net_defects((4, (("a", (0,), (2,)), ("b", (0, 3), (1,))))),
            (("choice", "a", "b"), ("place", 2), ("place", 3), ("step", "a")),
        )

    def test_steps(self):
        self.shows(
            [step_names(C), inputs_of(F, "join"), outputs_of(F, "fork")],
            [("again", "begin", "stop"), (5, 6), (2, 3)],
        )
        self.shows(outcome(inputs_of, F, "ship"), ("raised", "UnknownStep", {"name": "ship"}))

    def test_clusters(self):
        self.shows([clusters(C), cluster_of(F, "join")], [(((0,), ("begin",)), ((2,), ("again", "stop"))), 4])

    def test_steps_around_a_place(self):
        self.shows([steps_into(F, 2), steps_out_of(F, 4)], [("back", "fork"), ("back", "pass")])

    def test_markings(self):
        self.shows(
            [first_marking(C), last_marking(C), is_marking(C, (1, 2, 3)), is_marking(C, (1, 0))],
            [(1, 0, 0), (0, 1, 0), True, False],
        )

    def test_enabled(self):
        marking = (0, 0, 0, 1, 1, 0, 0)
        self.shows([enabled_steps(F, marking), enabled_clusters(F, marking)], [("back", "pass", "pay"), (2, 3)])

    def test_runs(self):
        self.shows(
            [is_run(P, ("card", "ship")), is_run(P, ("ship",)),
             is_complete(P, ("card",)), is_complete(P, ("cash", "ship"))],
            [True, False, False, True],
        )

    def test_markings_of_runs(self):
        self.shows(
            [marking_after(L, ("fork", "left")), markings_on(P, ("ship",), marking=(0, 0, 1))],
            [(0, 1, 0, 1), ((0, 0, 1), (0, 1, 0))],
        )
        self.shows(outcome(marking_after, B, ("left", "both")), ("raised", "InvalidRun", {"at": 1}))

    def test_all_runs(self):
        self.shows(
            [list(all_runs(B, length=1)), list(all_runs(B, length=2)), list(all_runs(C, length=0))],
            [[("left",), ("right",)], [], [()]],
        )

    def test_reachable_markings(self):
        self.shows(reachable_markings(B), ((0, 0, 0, 1), (0, 0, 1, 0), (1, 0, 0, 0)))

    def test_walks(self):
        walk = Walk.along(F, ("fork", "pay"))
        self.shows(
            [walk.next_steps, walk.do("check", "back"), len(walk), str(walk)],
            [("check",), (0, 0, 1, 0, 0, 0, 1), 4, "walk of 4 steps"],
        )
        self.shows(outcome(walk.do, "check", "join"), ("raised", "InvalidRun", {"at": 1}))
        self.shows(
            [walk.names, walk.marking, len(walk)], [("fork", "pay", "check", "back"), (0, 0, 1, 0, 0, 0, 1), 4]
        )

    def test_effect(self):
        self.shows([effect(F, "fork"), effect(C, "again")], [(-1, 0, 1, 1, 0, 0, 0), (0, 0, 0)])

    def test_weightings_and_counts(self):
        self.shows(
            [is_weighting(F, (2, 2, 1, 1, 1, 1, 1)), are_counts(F, (1, 2, 1, 1, 1, 1, 1)),
             are_growing_counts(B, (-1, -1, -1, -1)), is_weighting(B, (0, 0, 0, 0))],
            [True, True, True, True],
        )
        self.shows(are_rising_weights((3, (("a", (0,), (2,)), ("b", (2,), (1, 2)))), (0, 0, 1)), True)

    def test_bases(self):
        self.shows(
            [weighting_basis(F), counts_basis(F)],
            [((1, 1, 0, 1, 0, 0, 1), (0, 0, 1, -1, 1, 1, -1)), ((1, 0, -1, -1, -1, -1, -1), (0, 1, 1, 1, 1, 1, 1))],
        )
        self.shows([effect_rank(F), effect_rank(B), weighting_basis(B)], [5, 4, ()])

    def test_positive_weightings_and_growing_counts(self):
        self.shows(
            [is_weighting(F, positive_weighting(F)), min(positive_weighting(F)) > 0,
             positive_weighting(B), growing_counts(F)],
            [True, True, None, None],
        )
        self.shows(are_growing_counts(B, growing_counts(B)), True)
        self.shows([are_counts(F, positive_counts(F)), rising_weights(F)], [True, None])
        self.shows([are_rising_weights(B, rising_weights(B)), positive_counts(B)], [True, None])

    def test_siphons_and_traps(self):
        self.shows(
            [is_siphon(B, (0, 1, 3)), is_siphon(B, (1, 3)), is_trap(B, (1,)), is_trap(B, (1,), closed=True)],
            [True, False, True, False],
        )
        self.shows(
            [largest_siphon(B, (0, 1, 3)), largest_siphon(B, (1, 2, 3)),
             largest_trap(F, (1, 2, 4), closed=True), largest_trap(F, (1, 2, 4))],
            [(0, 1, 3), (), (), (1,)],
        )
        self.shows([empty_siphon(B, (0, 0, 1, 0)), empty_siphon(B, (1, 0, 0, 0))], [(0, 1, 3), ()])
        # What the document says of D at its occurring markings.
        self.shows(empty_trap(D, (0, 0, 1, 0, 0, 0, 0, 1), closed=True), (0, 1, 3, 4, 5, 6))

    def test_finish_tables(self):
        self.shows(finish_table(F), {
            (0, 0, 0, 0, 0, 1, 1): (4, 1), (0, 0, 0, 0, 1, 0, 1): (3, 2), (0, 0, 0, 1, 1, 0, 0): (2, 3),
            (0, 0, 1, 0, 0, 0, 1): (1, 3), (0, 0, 1, 1, 0, 0, 0): (1, 4), (1, 0, 0, 0, 0, 0, 0): (0, 5),
        })
        self.shows(
            [finish_table(C), finish_table(B), is_finish_table(C, {(1, 0, 0): (0, 9), (0, 0, 1): (1, 1)})],
            [{(0, 0, 1): (1, 1), (1, 0, 0): (0, 2)}, None, True],
        )


class Readme(unittest.TestCase):

    def test_examples(self):
        readme = Path(__file__).resolve().parent.parent / "README.md"
        failed, tried = doctest.testfile(str(readme), module_relative=False)
        self.assertEqual(failed, 0)
        self.assertGreater(tried, 5)


if __name__ == "__main__":
    unittest.main()
