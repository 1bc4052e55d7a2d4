"""The examples of the document, and those of the README."""

import doctest
import unittest
from pathlib import Path

from caseflow.algebra.siphons import (
    empty_siphon, empty_trap, is_siphon, is_trap, largest_siphon, largest_trap,
)
from caseflow.algebra.weightings import (
    are_counts, are_growing_counts, are_rising_weights, counts_basis, effect, effect_rank, growing_counts,
    is_weighting, positive_counts, positive_weighting, rising_weights, weighting_basis,
)
from caseflow.cases.cases import (
    are_exchanges, count_orders, difference, exchanges, is_difference, normal_run, runs_of_case, same_case,
)
from caseflow.cases.numbers import Case, case_at, case_lengths, case_number, complete_cases, count_cases
from caseflow.editions.editions import cover, edition_gap, first_unmovable, is_cover, moved_marking
from caseflow.editions.markings import is_occurrence_paper, occurrence_paper, occurs
from caseflow.library.library import (
    expand, full_cost, full_counts, full_greatest, full_least, full_variance, is_library, used_names,
)
from caseflow.nets.clusters import cluster_of, clusters, steps_into, steps_out_of
from caseflow.nets.nets import (
    inputs_of, is_net, is_workflow, make_net, net_defects, outputs_of, step_names,
)
from caseflow.nets.runs import (
    all_runs, enabled_clusters, enabled_steps, first_marking, is_complete, is_marking, is_run,
    last_marking, marking_after, markings_on, reachable_markings,
)
from caseflow.nets.walks import Walk
from caseflow.office.logs import (
    completion, correction_bound, is_alignment, is_correction_bound, least_alignment, log_beginning,
)
from caseflow.office.office import Office
from caseflow.readings.chances import (
    avoid_chance, chances_of, cost_variance, costs_of, expected_cost, expected_counts, is_value_table, pass_chance,
    value_table,
)
from caseflow.readings.costs import chances_of_costs, count_of_cost, free_loop, is_free_loop
from caseflow.readings.extremes import greatest_paper, is_greatest_paper, is_least_paper, least_paper
from caseflow.readings.orders import (
    is_closed_plan, is_order, is_weight_table, order_plan, ordered_run, planned_run, weight_sum,
)
from caseflow.sound.faults import find_fault, is_fault
from caseflow.sound.papers import is_sound, is_structure_paper, structure_paper
from caseflow.sound.tables import finish_table, is_finish_table
from caseflow.terms.shapes import collapse, is_part, largest_part, part_workflow
from caseflow.terms.terms import Do, Loop, Parallel, Sequence, Term, workflow_term
from caseflow.text.formats import (
    format_fraction, format_library, format_marking, format_names, format_net, parse_fraction, parse_library,
    parse_marking, parse_names, parse_net,
)
from caseflow.text.shell import Shell
from tests.samples import A, B, C, D, F, L, P, outcome, same


class Examples(unittest.TestCase):

    def shows(self, result, expected):
        self.assertTrue(same(result, expected), (result, expected))

    def test_nets_and_workflows(self):
        self.shows([is_net(F), is_workflow(F), is_workflow(B), is_net((2, ()))], [True, True, True, False])

    def test_make_net(self):
        made = make_net(3, ("stop", (2, 2), (1,)), ("begin", (0,), (2,)), ("again", (2,), (2,)))
        self.shows(made, C)

    def test_net_defects(self):
        self.shows(
            net_defects((4, (("a", (0,), (2,)), ("b", (0, 3), (1,))))),
            (("choice", "a", "b"), ("place", 2), ("place", 3), ("step", "a")),
        )

    def test_steps(self):
        self.shows(
            [step_names(C), inputs_of(F, "join"), outputs_of(F, "fork")],
            [("again", "begin", "stop"), (5, 6), (2, 3)],
        )
        self.shows(outcome(inputs_of, F, "ship"), ("raised", "UnknownStep", {"name": "ship"}))

    def test_clusters(self):
        self.shows([clusters(C), cluster_of(F, "join")], [(((0,), ("begin",)), ((2,), ("again", "stop"))), 4])

    def test_steps_around_a_place(self):
        self.shows([steps_into(F, 2), steps_out_of(F, 4)], [("back", "fork"), ("back", "pass")])

    def test_markings(self):
        self.shows(
            [first_marking(C), last_marking(C), is_marking(C, (1, 2, 3)), is_marking(C, (1, 0))],
            [(1, 0, 0), (0, 1, 0), True, False],
        )

    def test_enabled(self):
        marking = (0, 0, 0, 1, 1, 0, 0)
        self.shows([enabled_steps(F, marking), enabled_clusters(F, marking)], [("back", "pass", "pay"), (2, 3)])

    def test_runs(self):
        self.shows(
            [is_run(P, ("card", "ship")), is_run(P, ("ship",)),
             is_complete(P, ("card",)), is_complete(P, ("cash", "ship"))],
            [True, False, False, True],
        )

    def test_markings_of_runs(self):
        self.shows(
            [marking_after(L, ("fork", "left")), markings_on(P, ("ship",), marking=(0, 0, 1))],
            [(0, 1, 0, 1), ((0, 0, 1), (0, 1, 0))],
        )
        self.shows(outcome(marking_after, B, ("left", "both")), ("raised", "InvalidRun", {"at": 1}))

    def test_all_runs(self):
        self.shows(
            [list(all_runs(B, length=1)), list(all_runs(B, length=2)), list(all_runs(C, length=0))],
            [[("left",), ("right",)], [], [()]],
        )

    def test_reachable_markings(self):
        self.shows(reachable_markings(B), ((0, 0, 0, 1), (0, 0, 1, 0), (1, 0, 0, 0)))

    def test_walks(self):
        walk = Walk.along(F, ("fork", "pay"))
        self.shows(
            [walk.next_steps, walk.do("check", "back"), len(walk), str(walk)],
            [("check",), (0, 0, 1, 0, 0, 0, 1), 4, "walk of 4 steps"],
        )
        self.shows(outcome(walk.do, "check", "join"), ("raised", "InvalidRun", {"at": 1}))
        self.shows(
            [walk.names, walk.marking, len(walk)], [("fork", "pay", "check", "back"), (0, 0, 1, 0, 0, 0, 1), 4]
        )

    def test_effect(self):
        self.shows([effect(F, "fork"), effect(C, "again")], [(-1, 0, 1, 1, 0, 0, 0), (0, 0, 0)])

    def test_weightings_and_counts(self):
        self.shows(
            [is_weighting(F, (2, 2, 1, 1, 1, 1, 1)), are_counts(F, (1, 2, 1, 1, 1, 1, 1)),
             are_growing_counts(B, (-1, -1, -1, -1)), is_weighting(B, (0, 0, 0, 0))],
            [True, True, True, True],
        )
        self.shows(are_rising_weights((3, (("a", (0,), (2,)), ("b", (2,), (1, 2)))), (0, 0, 1)), True)

    def test_bases(self):
        self.shows(
            [weighting_basis(F), counts_basis(F)],
            [((1, 1, 0, 1, 0, 0, 1), (0, 0, 1, -1, 1, 1, -1)), ((1, 0, -1, -1, -1, -1, -1), (0, 1, 1, 1, 1, 1, 1))],
        )
        self.shows([effect_rank(F), effect_rank(B), weighting_basis(B)], [5, 4, ()])

    def test_positive_weightings_and_growing_counts(self):
        self.shows(
            [is_weighting(F, positive_weighting(F)), min(positive_weighting(F)) > 0,
             positive_weighting(B), growing_counts(F)],
            [True, True, None, None],
        )
        self.shows(are_growing_counts(B, growing_counts(B)), True)
        self.shows([are_counts(F, positive_counts(F)), rising_weights(F)], [True, None])
        self.shows([are_rising_weights(B, rising_weights(B)), positive_counts(B)], [True, None])

    def test_siphons_and_traps(self):
        self.shows(
            [is_siphon(B, (0, 1, 3)), is_siphon(B, (1, 3)), is_trap(B, (1,)), is_trap(B, (1,), closed=True)],
            [True, False, True, False],
        )
        self.shows(
            [largest_siphon(B, (0, 1, 3)), largest_siphon(B, (1, 2, 3)),
             largest_trap(F, (1, 2, 4), closed=True), largest_trap(F, (1, 2, 4))],
            [(0, 1, 3), (), (), (1,)],
        )
        self.shows([empty_siphon(B, (0, 0, 1, 0)), empty_siphon(B, (1, 0, 0, 0))], [(0, 1, 3), ()])
        # What the document says of D at its occurring markings.
        self.shows(empty_trap(D, (0, 0, 1, 0, 0, 0, 0, 1), closed=True), (0, 1, 3, 4, 5, 6))

    def test_finish_tables(self):
        self.shows(finish_table(F), {
            (0, 0, 0, 0, 0, 1, 1): (4, 1), (0, 0, 0, 0, 1, 0, 1): (3, 2), (0, 0, 0, 1, 1, 0, 0): (2, 3),
            (0, 0, 1, 0, 0, 0, 1): (1, 3), (0, 0, 1, 1, 0, 0, 0): (1, 4), (1, 0, 0, 0, 0, 0, 0): (0, 5),
        })
        self.shows(
            [finish_table(C), finish_table(B), is_finish_table(C, {(1, 0, 0): (0, 9), (0, 0, 1): (1, 1)})],
            [{(0, 0, 1): (1, 1), (1, 0, 0): (0, 2)}, None, True],
        )

    def test_soundness(self):
        self.shows([is_sound(F), is_sound(B), is_sound(L)], [True, False, False])

    def test_structure_papers(self):
        self.shows(
            [structure_paper(P)[0], is_structure_paper(B, ("growth", (-1, -1, -1, -1))),
             is_structure_paper(B, ("rank", 4, 2)), is_structure_paper(L, ("rank", 4, 3))],
            ["sound", True, True, True],
        )

    def test_faults(self):
        self.shows(
            [find_fault(F), is_fault(B, ("empty", ("left",), (0, 1, 3))), is_fault(L, ("left", ("fork", "left")))],
            [None, True, True],
        )
        self.shows([find_fault(B)[0], len(find_fault(B)[1]), len(find_fault(L)[1])], ["empty", 1, 2])


class Cases(unittest.TestCase):

    def shows(self, result, expected):
        self.assertTrue(same(result, expected), (result, expected))

    def test_normal_runs(self):
        self.shows(
            [normal_run(F, ("fork", "check", "pass", "pay")),
             same_case(F, ("fork", "pay", "check"), ("fork", "check", "pay"))],
            [("fork", "check", "pay", "pass"), True],
        )

    def test_exchanges(self):
        self.shows(
            [are_exchanges(F, ("fork", "pay", "check"), ("fork", "check", "pay"), (1,)),
             exchanges(P, ("card",), ("cash",))],
            [True, None],
        )
        self.shows(are_exchanges(F, ("fork", "pay", "check"), ("fork", "pay", "check"), (1, 1)), True)

    def test_differences(self):
        self.shows(
            [is_difference(P, ("card",), ("cash",), ("card", "cash")),
             is_difference(P, ("card",), ("cash",), ("card", "ship")), difference(P, (), ())],
            [True, True, None],
        )

    def test_orders_of_a_case(self):
        self.shows(count_orders(F, ("fork", "check", "pass", "pay")), 3)
        self.shows(
            list(runs_of_case(F, ("fork", "check", "pay"))), [("fork", "check", "pay"), ("fork", "pay", "check")]
        )

    def test_numbers(self):
        self.shows([count_cases(F, 5), count_cases(F, 6), count_cases(F, 7), count_cases(P, 2)], [1, 0, 1, 2])
        self.shows(
            [case_at(P, 2, 1), case_number(F, ("fork", "check", "pass", "pay", "join"))], [("cash", "ship"), 0]
        )

    def test_complete_cases(self):
        self.shows(
            [list(complete_cases(P)), list(complete_cases(C, longest=3))],
            [[("card", "ship"), ("cash", "ship")], [("begin", "stop"), ("begin", "again", "stop")]],
        )

    def test_case(self):
        case = Case(F, ("fork",)).then("pay", "check")
        self.shows(
            [case == Case(F, ("fork", "check", "pay")), str(case), len(case), case.is_finished],
            [True, "fork then check then pay", 3, False],
        )
        self.shows(str(Case.numbered(P, 2, 0)), "card then ship")

    def test_lengths(self):
        self.shows([case_lengths(P), case_lengths(F), case_lengths(C)], [(2, 2), (5, None), (2, None)])


class Readings(unittest.TestCase):

    def shows(self, result, expected):
        self.assertTrue(same(result, expected), (result, expected))

    def test_orders_and_plans(self):
        self.shows(
            [is_order(F, (4, 3, 2, 1, 0)), is_order(F, (0, 1)), is_closed_plan(C, {(1, 0, 0): 0, (0, 0, 1): 1}),
             is_closed_plan(C, {(1, 0, 0): 0})],
            [True, False, True, False],
        )
        self.shows(order_plan(C), {(0, 0, 1): 1, (1, 0, 0): 0})
        self.shows([len(order_plan(F)), len(order_plan(F, order=(0, 1, 3, 2, 4)))], [6, 5])

    def test_runs_by_orders_and_plans(self):
        self.shows(
            ordered_run(F, ("fork", "check", "pass", "pay", "join"), order=(0, 2, 1, 3, 4)),
            ("fork", "pay", "check", "pass", "join"),
        )
        self.shows(planned_run(P, ("card", "ship"), {(1, 0, 0): 0, (0, 0, 1): 1}), ("card", "ship"))

    def test_weights(self):
        value = ({(1, 0, 0): 0, (0, 0, 1): 1}, {(1, 0, 0): 25, (0, 0, 1): 5, (0, 1, 0): 1})
        self.shows([weight_sum(P, (2, 3, 5)), is_weight_table(P, (2, 3, 5), value)], [25, True])
        self.shows(weight_sum(C, (1, 1, 1)), None)

    def test_made_costs_and_chances(self):
        self.shows(
            [costs_of(P, ship=2, card=4, cash=7), costs_of(P), costs_of(P, default=0), chances_of(P, cash=2)],
            [(4, 7, 2), (1, 1, 1), (0, 0, 0), ((1, 3), (2, 3), (1, 1))],
        )
        self.shows(outcome(costs_of, P, sell=2), ("raised", "UnknownStep", {"name": "sell"}))

    def test_expected_costs(self):
        self.shows([expected_cost(F), cost_variance(F)], [(7, 1), (8, 1)])
        self.shows([expected_cost(P, costs=(4, 7, 2)), cost_variance(P, costs=(4, 7, 2))], [(15, 2), (9, 4)])
        value = ({(1, 0, 0): 0, (0, 0, 1): 1}, {(1, 0, 0): (3, 1), (0, 0, 1): (2, 1), (0, 1, 0): (0, 1)})
        self.shows([is_value_table(C, value), is_value_table(C, value_table(C))], [True, True])

    def test_counts_and_chances(self):
        self.shows(
            [expected_counts(F)[:3], expected_counts(P, chances=((1, 3), (2, 3), (1, 1)))],
            [((1, 1), (2, 1), (1, 1)), ((1, 3), (2, 3), (1, 1))],
        )
        self.shows(
            [avoid_chance(F, ("back",)), avoid_chance(F, ("pay",)), avoid_chance(P, ())], [(1, 2), (0, 1), (1, 1)]
        )
        self.shows(
            [pass_chance(A, (0, 0, 1, 0)), pass_chance(F, (0, 0, 1, 0, 0, 0, 1)), pass_chance(A, (0, 0, 1, 1))],
            [(1, 2), (1, 1), (0, 1)],
        )

    def test_least_papers(self):
        table = {(1, 0, 0): (0, 6), (0, 0, 1): (1, 2)}
        self.shows(
            [least_paper(P, costs=(4, 7, 2))[:2], is_least_paper(P, (6, ("card", "ship"), table), costs=(4, 7, 2))],
            [(6, ("card", "ship")), True],
        )

    def test_greatest_papers(self):
        self.shows(
            [greatest_paper(P, costs=(4, 7, 2))[:2], greatest_paper(C)[0], greatest_paper(C, costs=(0, 1, 1))[:2]],
            [("greatest", 9), "unbounded", ("greatest", 2)],
        )
        self.shows(is_greatest_paper(C, ("unbounded", ("begin",), ("again",), ("stop",))), True)

    def test_costs_of_cases(self):
        self.shows(
            [count_of_cost(P, 2), count_of_cost(C, 4), count_of_cost(C, 2, costs=(0, 1, 1)),
             count_of_cost(C, 1, costs=(0, 1, 1))],
            [2, 1, None, 0],
        )
        self.shows(
            [is_free_loop(C, 2, (("begin",), ("again",), ("stop",)), costs=(0, 1, 1)), free_loop(C, 2)], [True, None]
        )
        self.shows(
            [chances_of_costs(C, 4), chances_of_costs(C, 2, costs=(0, 1, 1))],
            [((0, 1), (0, 1), (1, 2), (1, 4), (1, 8)), ((0, 1), (0, 1), (1, 1))],
        )


class Libraries(unittest.TestCase):

    K = (("buy", P, None, (4, 7, 2), ()), ("shop", C, None, None, (("begin", "buy", 10 ** 20),)))
    E = (("buy", P, None, None, ()), ("one", (2, (("go", (0,), (1,)),)), None, (5,), (("go", "buy", 1),)))

    def shows(self, result, expected):
        self.assertTrue(same(result, expected), (result, expected))

    def test_kinds(self):
        self.shows(
            [is_library(self.K), is_library(self.K[1:]), used_names(self.K, "shop"), used_names(self.K, "buy")],
            [True, False, ("buy",), ()],
        )

    def test_values(self):
        self.shows(
            [full_cost(self.K, "shop"), full_variance(self.K, "shop")],
            [(750000000000000000003, 1), (225000000000000000002, 1)],
        )
        self.shows(
            [full_counts(self.K, "shop")[("buy", "card")], full_counts(self.K, "shop")[("shop", "again")]],
            [(50000000000000000000, 1), (1, 1)],
        )
        self.shows(
            [full_least(self.K, "shop"), full_greatest(self.K, "shop"), full_greatest(self.K, "buy")],
            [600000000000000000002, None, 9],
        )

    def test_expansion(self):
        self.shows(expand(self.E, "one")[0], (5, (
            ("aa", (0,), (2,)), ("ab", (2,), (4,)), ("ac", (2,), (4,)), ("ad", (4,), (3,)), ("ae", (3,), (1,)))))
        self.shows(expand(self.E, "one")[1:], (
            ((1, 1), (1, 2), (1, 2), (1, 1), (1, 1)), (5, 1, 1, 1, 0),
            (("go", 0), ("go", 1, "card"), ("go", 1, "cash"), ("go", 1, "ship"), ("go", 2)),
        ))


class Terms(unittest.TestCase):

    T = Parallel(Do("pay"), Loop(Do("check"), enter="open", again="back", leave="pass"), fork="fork", join="join")

    def shows(self, result, expected):
        self.assertTrue(same(result, expected), (result, expected))

    def test_terms(self):
        self.shows(
            [str(self.T), len(self.T), self.T.depth, self.T.places, self.T.names[:2], list(self.T.walk())[:4]],
            ["par fork ( pay ; loop open ( check ) back pass ) join", 7, 3, 8, ("back", "check"),
             ["fork", "pay", "open", "check"]],
        )
        self.shows(self.T.workflow(), (8, (
            ("back", (7,), (6,)), ("check", (6,), (7,)), ("fork", (0,), (2, 4)), ("join", (3, 5), (1,)),
            ("open", (2,), (6,)), ("pass", (7,), (3,)), ("pay", (4,), (5,)))))
        self.shows(
            [Term.read(str(self.T)) == self.T, self.T.normalized() == self.T, str(self.T.normalized()),
             Term.read("seq ( seq ; alt )").names],
            [True, False, "par fork ( loop open ( check ) back pass ; pay ) join", ("alt", "seq")],
        )
        self.shows(outcome(Sequence, Do("a"), Do("a")), ("raised", "InvalidTerm", {}))

    def test_terms_of_workflows(self):
        self.shows([str(workflow_term(P)), workflow_term(F)], ["seq ( alt ( card ; cash ) ; ship )", None])

    def test_parts(self):
        self.shows(
            [largest_part(P, 0, 2), is_part(P, 0, 2, ("card",)), largest_part(F, 3, 6), largest_part(F, 2, 5)],
            [("card", "cash"), True, ("pay",), None],
        )
        self.shows(
            [part_workflow(P, 0, 2, ("card", "cash")), collapse(P, 0, 2, ("card", "cash"), "money")],
            [(2, (("card", (0,), (1,)), ("cash", (0,), (1,)))), (3, (("money", (0,), (2,)), ("ship", (2,), (1,))))],
        )


class Editions(unittest.TestCase):

    O = (3, (("begin", (0,), (2,)), ("stop", (2,), (1,))))

    def shows(self, result, expected):
        self.assertTrue(same(result, expected), (result, expected))

    def test_occurring_markings(self):
        self.shows([occurs(F, (0, 0, 1, 0, 0, 0, 1)), occurs(F, (0, 0, 1, 0, 0, 0, 0))], [True, False])
        self.shows(occurrence_paper(F, (0, 0, 1, 1, 0, 0, 0)), ("run", ("fork",)))
        self.shows(
            is_occurrence_paper(F, (0, 0, 1, 0, 0, 0, 0), ("weighting", (1, 1, 0, 1, 0, 0, 1))), True
        )
        marking = (0, 0, 1, 0, 0, 0, 0, 1)
        self.shows([occurs(D, marking), is_occurrence_paper(D, marking, ("trap", (0, 1, 3, 4, 5, 6)))], [False, True])

    def test_gaps_and_covers(self):
        self.shows([edition_gap(C, self.O), edition_gap(self.O, C), cover(C, self.O)], [("begin", "again"), None, None])
        found = (((0, 0, 1), (0, 0, 1)), ((0, 1, 0), (0, 1, 0)), ((1, 0, 0), (1, 0, 0)))
        self.shows(cover(self.O, C), found)
        self.shows([is_cover(self.O, C, found), is_cover(C, self.O, found)], [True, False])

    def test_moving(self):
        self.shows(
            [moved_marking(C, self.O, (0, 0, 1)), moved_marking(F, C, (0, 0, 1, 1, 0, 0, 0)),
             moved_marking(F, C, (0, 0, 1, 0, 0, 0, 1), places=(0, 1, 2, None, 2, 2, 2))],
            [(0, 0, 1), None, (0, 0, 2)],
        )
        self.shows(
            [first_unmovable(C, self.O), first_unmovable(F, C, places=(0, 1, 2, None, 2, 2, None))],
            [None, (0, 0, 0, 0, 0, 1, 1)],
        )


class Offices(unittest.TestCase):

    def shows(self, result, expected):
        self.assertTrue(same(result, expected), (result, expected))

    def test_office(self):
        office = Office()
        self.shows([office.publish(C), office.publish(F, costs=(0, 2, 1, 1, 1, 5)), office.edition], [0, 1, 0])
        office.edition = 1
        office.start("one")
        self.shows(
            [office.do("one", "fork", "pay"), office.spent, office.remaining("one"), office.cheapest("one")],
            [(0, 0, 1, 0, 0, 0, 1), 6, (6, 1), (4, ("check", "pass", "join"))],
        )
        self.shows(
            [list(office.worklist()), office.wanted(most=5), office.wanted(enabled="check", edition=1)],
            [[("one", 1, ("check",))], (), ("one",)],
        )
        self.shows(outcome(office.do, "one", "check", "pay"), ("raised", "InvalidRun", {"at": 1}))
        self.shows(office.state("one")[1], (0, 0, 1, 0, 0, 0, 1))
        self.shows(
            outcome(office.move, "one", 0, places=(0, 1, 2, None, 2, 2, None)), ("raised", "InvalidOperation", {})
        )

    def test_logs(self):
        self.shows(
            [log_beginning(F, ("fork", "check", "check")), completion(C, ("begin", "again")), completion(P, ("ship",))],
            [2, ("begin", "again", "stop"), None],
        )
        self.shows(
            least_alignment(C, ("begin", "again", "again")),
            (("both", "begin"), ("both", "again"), ("both", "again"), ("run", "stop")),
        )
        self.shows(is_alignment(P, ("ship", "card"), (("run", "cash"), ("both", "ship"), ("log", "card"))), True)
        self.shows(
            [is_correction_bound(P, ("ship",), {((1, 0, 0), 0): 1}),
             is_correction_bound(P, ("ship",), {((1, 0, 0), 0): 2})],
            [True, False],
        )
        self.shows(correction_bound(P, ("card", "ship")), {})


class Texts(unittest.TestCase):

    def shows(self, result, expected):
        self.assertTrue(same(result, expected), (result, expected))

    def test_formats(self):
        self.shows(format_net(C), "places 3\nagain 2 > 2\nbegin 0 > 2\nstop 2 > 1")
        self.shows(
            [parse_net(format_net(F)) == F, parse_library(format_library(Libraries.K)) == Libraries.K], [True, True]
        )
        self.shows(
            [format_marking(C, (0, 1, 0)), parse_marking(C, "0,0,1"), format_names(()), parse_names("fork pay")],
            ["0,1,0", (0, 0, 1), "-", ("fork", "pay")],
        )
        self.shows([format_fraction((15, 2)), parse_fraction("0/1")], ["15/2", (0, 1)])
        self.shows(outcome(parse_fraction, "2/4"), ("raised", "ParseError", {}))

    def test_shell(self):
        shell = Shell()
        self.shows(
            shell.run_all("publish\nplaces 3\ncard 0 > 2\ncash 0 > 2\nship 2 > 1", "start one", "do one card",
                          "expected one", "cheapest one"),
            ("0", "ok", "0,0,1", "1/1", "1 ship"),
        )
        self.shows([shell.run("occurs 0 1,1,0"), shell.run("state one"), len(shell)], ["no", "0 0,0,1 1", 7])
        self.shows(outcome(shell.run, "do one card"), ("raised", "InvalidRun", {"at": 0}))


class Readme(unittest.TestCase):

    def test_examples(self):
        readme = Path(__file__).resolve().parent.parent / "README.md"
        failed, tried = doctest.testfile(str(readme), module_relative=False)
        self.assertEqual(failed, 0)
        self.assertGreater(tried, 5)


if __name__ == "__main__":
    unittest.main()
