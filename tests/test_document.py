"""The examples of the document, and those of the README."""

import doctest
import unittest
from pathlib import Path

from caseflow.nets.clusters import cluster_of, clusters, steps_into, steps_out_of
from caseflow.nets.nets import (
    inputs_of, is_net, is_workflow, make_net, net_defects, outputs_of, step_names,
)
from caseflow.nets.runs import (
    all_runs, enabled_clusters, enabled_steps, first_marking, is_complete, is_marking, is_run,
    last_marking, marking_after, markings_on, reachable_markings,
)
from tests.samples import B, C, F, L, P, outcome, same


class Examples(unittest.TestCase):

    def shows(self, result, expected):
        self.assertTrue(same(result, expected), (result, expected))

    def test_nets_and_workflows(self):
        self.shows([is_net(F), is_workflow(F), is_workflow(B), is_net((2, ()))], [True, True, True, False])

    def test_make_net(self):
        made = make_net(3, ("stop", (2, 2), (1,)), ("begin", (0,), (2,)), ("again", (2,), (2,)))
        self.shows(made, C)

    def test_net_defects(self):
        self.shows(
            net_defects((4, (("a", (0,), (2,)), ("b", (0, 3), (1,))))),
            (("choice", "a", "b"), ("place", 2), ("place", 3), ("step", "a")),
        )

    def test_steps(self):
        self.shows(
            [step_names(C), inputs_of(F, "join"), outputs_of(F, "fork")],
            [("again", "begin", "stop"), (5, 6), (2, 3)],
        )
        self.shows(outcome(inputs_of, F, "ship"), ("raised", "UnknownStep", {"name": "ship"}))

    def test_clusters(self):
        self.shows([clusters(C), cluster_of(F, "join")], [(((0,), ("begin",)), ((2,), ("again", "stop"))), 4])

    def test_steps_around_a_place(self):
        self.shows([steps_into(F, 2), steps_out_of(F, 4)], [("back", "fork"), ("back", "pass")])

    def test_markings(self):
        self.shows(
            [first_marking(C), last_marking(C), is_marking(C, (1, 2, 3)), is_marking(C, (1, 0))],
            [(1, 0, 0), (0, 1, 0), True, False],
        )

    def test_enabled(self):
        marking = (0, 0, 0, 1, 1, 0, 0)
        self.shows([enabled_steps(F, marking), enabled_clusters(F, marking)], [("back", "pass", "pay"), (2, 3)])

    def test_runs(self):
        self.shows(
            [is_run(P, ("card", "ship")), is_run(P, ("ship",)),
             is_complete(P, ("card",)), is_complete(P, ("cash", "ship"))],
            [True, False, False, True],
        )

    def test_markings_of_runs(self):
        self.shows(
            [marking_after(L, ("fork", "left")), markings_on(P, ("ship",), marking=(0, 0, 1))],
            [(0, 1, 0, 1), ((0, 0, 1), (0, 1, 0))],
        )
        self.shows(outcome(marking_after, B, ("left", "both")), ("raised", "InvalidRun", {"at": 1}))

    def test_all_runs(self):
        self.shows(
            [list(all_runs(B, length=1)), list(all_runs(B, length=2)), list(all_runs(C, length=0))],
            [[("left",), ("right",)], [], [()]],
        )

    def test_reachable_markings(self):
        self.shows(reachable_markings(B), ((0, 0, 0, 1), (0, 0, 1, 0), (1, 0, 0, 0)))


class Readme(unittest.TestCase):

    def test_examples(self):
        readme = Path(__file__).resolve().parent.parent / "README.md"
        failed, tried = doctest.testfile(str(readme), module_relative=False)
        self.assertEqual(failed, 0)
        self.assertGreater(tried, 5)


if __name__ == "__main__":
    unittest.main()
