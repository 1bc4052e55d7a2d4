"""The examples of the document, and those of the README."""

import doctest
import unittest
from pathlib import Path

from caseflow.algebra.siphons import (
    empty_siphon, empty_trap, is_siphon, is_trap, largest_siphon, largest_trap,
)
from caseflow.algebra.weightings import (
    are_counts, are_growing_counts, are_rising_weights, counts_basis, effect, effect_rank, growing_counts,
    is_weighting, positive_counts, positive_weighting, rising_weights, weighting_basis,
)
from caseflow.cases.cases import (
    are_exchanges, count_orders, difference, exchanges, is_difference, normal_run, runs_of_case, same_case,
)
from caseflow.cases.numbers import Case, case_at, case_lengths, case_number, complete_cases, count_cases
from caseflow.nets.clusters import cluster_of, clusters, steps_into, steps_out_of
from caseflow.nets.nets import (
    inputs_of, is_net, is_workflow, make_net, net_defects, outputs_of, step_names,
)
from caseflow.nets.runs import (
    all_runs, enabled_clusters, enabled_steps, first_marking, is_complete, is_marking, is_run,
    last_marking, marking_after, markings_on, reachable_markings,
)
from caseflow.nets.walks import Walk
from caseflow.readings.chances import (
    avoid_chance, chances_of, cost_variance, costs_of, expected_cost, expected_counts, is_value_table, pass_chance,
    value_table,
)
from caseflow.readings.costs import chances_of_costs, count_of_cost, free_loop, is_free_loop
from caseflow.readings.extremes import greatest_paper, is_greatest_paper, is_least_paper, least_paper
from caseflow.readings.orders import (
    is_closed_plan, is_order, is_weight_table, order_plan, ordered_run, planned_run, weight_sum,
)
from caseflow.sound.faults import find_fault, is_fault
from caseflow.sound.papers import is_sound, is_structure_paper, structure_paper
from caseflow.sound.tables import finish_table, is_finish_table
from tests.samples import A, B, C, D, F, L, P, outcome, same


class Examples(unittest.TestCase):

    def shows(self, result, expected):
        self.assertTrue(same(result, expected), (result, expected))

    def test_nets_and_workflows(self):
        self.shows([is_net(F), is_workflow(F), is_workflow(B), is_net((2, ()))], [True, True, True, False])

    def test_make_net(self):
        made = make_net(3, ("stop", (2, 2), (1,)), ("begin", (0,), (2,)), ("again", (2,), (2,)))
        self.shows(made, C)

    def test_net_defects(self):
        self.shows(
            net_defects((4, (("a", (0,), (2,)), ("b", (0, 3), (1,))))),
            (("choice", "a", "b"), ("place", 2), ("place", 3), ("step", "a")),
        )

    def test_steps(self):
        self.shows(
            [step_names(C), inputs_of(F, "join"), outputs_of(F, "fork")],
            [("again", "begin", "stop"), (5, 6), (2, 3)],
        )
        self.shows(outcome(inputs_of, F, "ship"), ("raised", "UnknownStep", {"name": "ship"}))

    def test_clusters(self):
        self.shows([clusters(C), cluster_of(F, "join")], [(((0,), ("begin",)), ((2,), ("again", "stop"))), 4])

    def test_steps_around_a_place(self):
        self.shows([steps_into(F, 2), steps_out_of(F, 4)], [("back", "fork"), ("back", "pass")])

    def test_markings(self):
        self.shows(
            [first_marking(C), last_marking(C), is_marking(C, (1, 2, 3)), is_marking(C, (1, 0))],
            [(1, 0, 0), (0, 1, 0), True, False],
        )

    def test_enabled(self):
        marking = (0, 0, 0, 1, 1, 0, 0)
        self.shows([enabled_steps(F, marking), enabled_clusters(F, marking)], [("back", "pass", "pay"), (2, 3)])

    def test_runs(self):
        self.shows(
            [is_run(P, ("card", "ship")), is_run(P, ("ship",)),
             is_complete(P, ("card",)), is_complete(P, ("cash", "ship"))],
            [True, False, False, True],
        )

    def test_markings_of_runs(self):
        self.shows(
            [marking_after(L, ("fork", "left")), markings_on(P, ("ship",), marking=(0, 0, 1))],
            [(0, 1, 0, 1), ((0, 0, 1), (0, 1, 0))],
        )
        self.shows(outcome(marking_after, B, ("left", "both")), ("raised", "InvalidRun", {"at": 1}))

    def test_all_runs(self):
        self.shows(
            [list(all_runs(B, length=1)), list(all_runs(B, length=2)), list(all_runs(C, length=0))],
            [[("left",), ("right",)], [], [()]],
        )

    def test_reachable_markings(self):
        self.shows(reachable_markings(B), ((0, 0, 0, 1), (0, 0, 1, 0), (1, 0, 0, 0)))

    def test_walks(self):
        walk = Walk.along(F, ("fork", "pay"))
        self.shows(
            [walk.next_steps, walk.do("check", "back"), len(walk), str(walk)],
            [("check",), (0, 0, 1, 0, 0, 0, 1), 4, "walk of 4 steps"],
        )
        self.shows(outcome(walk.do, "check", "join"), ("raised", "InvalidRun", {"at": 1}))
        self.shows(
            [walk.names, walk.marking, len(walk)], [("fork", "pay", "check", "back"), (0, 0, 1, 0, 0, 0, 1), 4]
        )

    def test_effect(self):
        self.shows([effect(F, "fork"), effect(C, "again")], [(-1, 0, 1, 1, 0, 0, 0), (0, 0, 0)])

    def test_weightings_and_counts(self):
        self.shows(
            [is_weighting(F, (2, 2, 1, 1, 1, 1, 1)), are_counts(F, (1, 2, 1, 1, 1, 1, 1)),
             are_growing_counts(B, (-1, -1, -1, -1)), is_weighting(B, (0, 0, 0, 0))],
            [True, True, True, True],
        )
        self.shows(are_rising_weights((3, (("a", (0,), (2,)), ("b", (2,), (1, 2)))), (0, 0, 1)), True)

    def test_bases(self):
        self.shows(
            [weighting_basis(F), counts_basis(F)],
            [((1, 1, 0, 1, 0, 0, 1), (0, 0, 1, -1, 1, 1, -1)), ((1, 0, -1, -1, -1, -1, -1), (0, 1, 1, 1, 1, 1, 1))],
        )
        self.shows([effect_rank(F), effect_rank(B), weighting_basis(B)], [5, 4, ()])

    def test_positive_weightings_and_growing_counts(self):
        self.shows(
            [is_weighting(F, positive_weighting(F)), min(positive_weighting(F)) > 0,
             positive_weighting(B), growing_counts(F)],
            [True, True, None, None],
        )
        self.shows(are_growing_counts(B, growing_counts(B)), True)
        self.shows([are_counts(F, positive_counts(F)), rising_weights(F)], [True, None])
        self.shows([are_rising_weights(B, rising_weights(B)), positive_counts(B)], [True, None])

    def test_siphons_and_traps(self):
        self.shows(
            [is_siphon(B, (0, 1, 3)), is_siphon(B, (1, 3)), is_trap(B, (1,)), is_trap(B, (1,), closed=True)],
            [True, False, True, False],
        )
        self.shows(
            [largest_siphon(B, (0, 1, 3)), largest_siphon(B, (1, 2, 3)),
             largest_trap(F, (1, 2, 4), closed=True), largest_trap(F, (1, 2, 4))],
            [(0, 1, 3), (), (), (1,)],
        )
        self.shows([empty_siphon(B, (0, 0, 1, 0)), empty_siphon(B, (1, 0, 0, 0))], [(0, 1, 3), ()])
        # What the document says of D at its occurring markings.
        self.shows(empty_trap(D, (0, 0, 1, 0, 0, 0, 0, 1), closed=True), (0, 1, 3, 4, 5, 6))

    def test_finish_tables(self):
        self.shows(finish_table(F), {
            (0, 0, 0, 0, 0, 1, 1): (4, 1), (0, 0, 0, 0, 1, 0, 1): (3, 2), (0, 0, 0, 1, 1, 0, 0): (2, 3),
            (0, 0, 1, 0, 0, 0, 1): (1, 3), (0, 0, 1, 1, 0, 0, 0): (1, 4), (1, 0, 0, 0, 0, 0, 0): (0, 5),
        })
        self.shows(
            [finish_table(C), finish_table(B), is_finish_table(C, {(1, 0, 0): (0, 9), (0, 0, 1): (1, 1)})],
            [{(0, 0, 1): (1, 1), (1, 0, 0): (0, 2)}, None, True],
        )

    def test_soundness(self):
        self.shows([is_sound(F), is_sound(B), is_sound(L)], [True, False, False])

    def test_structure_papers(self):
        self.shows(
            [structure_paper(P)[0], is_structure_paper(B, ("growth", (-1, -1, -1, -1))),
             is_structure_paper(B, ("rank", 4, 2)), is_structure_paper(L, ("rank", 4, 3))],
            ["sound", True, True, True],
        )

    def test_faults(self):
        self.shows(
            [find_fault(F), is_fault(B, ("empty", ("left",), (0, 1, 3))), is_fault(L, ("left", ("fork", "left")))],
            [None, True, True],
        )
        self.shows([find_fault(B)[0], len(find_fault(B)[1]), len(find_fault(L)[1])], ["empty", 1, 2])


class Cases(unittest.TestCase):

    def shows(self, result, expected):
        self.assertTrue(same(result, expected), (result, expected))

    def test_normal_runs(self):
        self.shows(
            [normal_run(F, ("fork", "check", "pass", "pay")),
             same_case(F, ("fork", "pay", "check"), ("fork", "check", "pay"))],
            [("fork", "check", "pay", "pass"), True],
        )

    def test_exchanges(self):
        self.shows(
            [are_exchanges(F, ("fork", "pay", "check"), ("fork", "check", "pay"), (1,)),
             exchanges(P, ("card",), ("cash",))],
            [True, None],
        )
        self.shows(are_exchanges(F, ("fork", "pay", "check"), ("fork", "pay", "check"), (1, 1)), True)

    def test_differences(self):
        self.shows(
            [is_difference(P, ("card",), ("cash",), ("card", "cash")),
             is_difference(P, ("card",), ("cash",), ("card", "ship")), difference(P, (), ())],
            [True, True, None],
        )

    def test_orders_of_a_case(self):
        self.shows(count_orders(F, ("fork", "check", "pass", "pay")), 3)
        self.shows(
            list(runs_of_case(F, ("fork", "check", "pay"))), [("fork", "check", "pay"), ("fork", "pay", "check")]
        )

    def test_numbers(self):
        self.shows([count_cases(F, 5), count_cases(F, 6), count_cases(F, 7), count_cases(P, 2)], [1, 0, 1, 2])
        self.shows(
            [case_at(P, 2, 1), case_number(F, ("fork", "check", "pass", "pay", "join"))], [("cash", "ship"), 0]
        )

    def test_complete_cases(self):
        self.shows(
            [list(complete_cases(P)), list(complete_cases(C, longest=3))],
            [[("card", "ship"), ("cash", "ship")], [("begin", "stop"), ("begin", "again", "stop")]],
        )

    def test_case(self):
        case = Case(F, ("fork",)).then("pay", "check")
        self.shows(
            [case == Case(F, ("fork", "check", "pay")), str(case), len(case), case.is_finished],
            [True, "fork then check then pay", 3, False],
        )
        self.shows(str(Case.numbered(P, 2, 0)), "card then ship")

    def test_lengths(self):
        self.shows([case_lengths(P), case_lengths(F), case_lengths(C)], [(2, 2), (5, None), (2, None)])


class Readings(unittest.TestCase):

    def shows(self, result, expected):
        self.assertTrue(same(result, expected), (result, expected))

    def test_orders_and_plans(self):
        self.shows(
            [is_order(F, (4, 3, 2, 1, 0)), is_order(F, (0, 1)), is_closed_plan(C, {(1, 0, 0): 0, (0, 0, 1): 1}),
             is_closed_plan(C, {(1, 0, 0): 0})],
            [True, False, True, False],
        )
        self.shows(order_plan(C), {(0, 0, 1): 1, (1, 0, 0): 0})
        self.shows([len(order_plan(F)), len(order_plan(F, order=(0, 1, 3, 2, 4)))], [6, 5])

    def test_runs_by_orders_and_plans(self):
        self.shows(
            ordered_run(F, ("fork", "check", "pass", "pay", "join"), order=(0, 2, 1, 3, 4)),
            ("fork", "pay", "check", "pass", "join"),
        )
        self.shows(planned_run(P, ("card", "ship"), {(1, 0, 0): 0, (0, 0, 1): 1}), ("card", "ship"))

    def test_weights(self):
        value = ({(1, 0, 0): 0, (0, 0, 1): 1}, {(1, 0, 0): 25, (0, 0, 1): 5, (0, 1, 0): 1})
        self.shows([weight_sum(P, (2, 3, 5)), is_weight_table(P, (2, 3, 5), value)], [25, True])
        self.shows(weight_sum(C, (1, 1, 1)), None)

    def test_made_costs_and_chances(self):
        self.shows(
            [costs_of(P, ship=2, card=4, cash=7), costs_of(P), costs_of(P, default=0), chances_of(P, cash=2)],
            [(4, 7, 2), (1, 1, 1), (0, 0, 0), ((1, 3), (2, 3), (1, 1))],
        )
        self.shows(outcome(costs_of, P, sell=2), ("raised", "UnknownStep", {"name": "sell"}))

    def test_expected_costs(self):
        self.shows([expected_cost(F), cost_variance(F)], [(7, 1), (8, 1)])
        self.shows([expected_cost(P, costs=(4, 7, 2)), cost_variance(P, costs=(4, 7, 2))], [(15, 2), (9, 4)])
        value = ({(1, 0, 0): 0, (0, 0, 1): 1}, {(1, 0, 0): (3, 1), (0, 0, 1): (2, 1), (0, 1, 0): (0, 1)})
        self.shows([is_value_table(C, value), is_value_table(C, value_table(C))], [True, True])

    def test_counts_and_chances(self):
        self.shows(
            [expected_counts(F)[:3], expected_counts(P, chances=((1, 3), (2, 3), (1, 1)))],
            [((1, 1), (2, 1), (1, 1)), ((1, 3), (2, 3), (1, 1))],
        )
        self.shows(
            [avoid_chance(F, ("back",)), avoid_chance(F, ("pay",)), avoid_chance(P, ())], [(1, 2), (0, 1), (1, 1)]
        )
        self.shows(
            [pass_chance(A, (0, 0, 1, 0)), pass_chance(F, (0, 0, 1, 0, 0, 0, 1)), pass_chance(A, (0, 0, 1, 1))],
            [(1, 2), (1, 1), (0, 1)],
        )

    def test_least_papers(self):
        table = {(1, 0, 0): (0, 6), (0, 0, 1): (1, 2)}
        self.shows(
            [least_paper(P, costs=(4, 7, 2))[:2], is_least_paper(P, (6, ("card", "ship"), table), costs=(4, 7, 2))],
            [(6, ("card", "ship")), True],
        )

    def test_greatest_papers(self):
        self.shows(
            [greatest_paper(P, costs=(4, 7, 2))[:2], greatest_paper(C)[0], greatest_paper(C, costs=(0, 1, 1))[:2]],
            [("greatest", 9), "unbounded", ("greatest", 2)],
        )
        self.shows(is_greatest_paper(C, ("unbounded", ("begin",), ("again",), ("stop",))), True)

    def test_costs_of_cases(self):
        self.shows(
            [count_of_cost(P, 2), count_of_cost(C, 4), count_of_cost(C, 2, costs=(0, 1, 1)),
             count_of_cost(C, 1, costs=(0, 1, 1))],
            [2, 1, None, 0],
        )
        self.shows(
            [is_free_loop(C, 2, (("begin",), ("again",), ("stop",)), costs=(0, 1, 1)), free_loop(C, 2)], [True, None]
        )
        self.shows(
            [chances_of_costs(C, 4), chances_of_costs(C, 2, costs=(0, 1, 1))],
            [((0, 1), (0, 1), (1, 2), (1, 4), (1, 8)), ((0, 1), (0, 1), (1, 1))],
        )


class Readme(unittest.TestCase):

    def test_examples(self):
        readme = Path(__file__).resolve().parent.parent / "README.md"
        failed, tried = doctest.testfile(str(readme), module_relative=False)
        self.assertEqual(failed, 0)
        self.assertGreater(tried, 5)


if __name__ == "__main__":
    unittest.main()
