"""What holds for all functions: checked arguments, their order, and that nothing is changed."""

import unittest
from copy import deepcopy

from caseflow.algebra.siphons import (
    empty_siphon, empty_trap, is_siphon, is_trap, largest_siphon, largest_trap,
)
from caseflow.algebra.weightings import (
    are_counts, are_growing_counts, are_rising_weights, counts_basis, effect, effect_rank, growing_counts,
    is_weighting, positive_counts, positive_weighting, rising_weights, weighting_basis,
)
from caseflow.nets.clusters import cluster_of, clusters, steps_into, steps_out_of
from caseflow.nets.nets import (
    inputs_of, is_net, is_workflow, make_net, net_defects, outputs_of, step_names,
)
from caseflow.nets.runs import (
    all_runs, enabled_clusters, enabled_steps, first_marking, is_complete, is_marking, is_run,
    last_marking, marking_after, markings_on, reachable_markings,
)
from caseflow.sound.faults import find_fault, is_fault
from caseflow.sound.papers import is_sound, is_structure_paper, structure_paper
from caseflow.sound.tables import finish_table, is_finish_table
from tests import plain
from tests.samples import APART, B, C, F, NETS, ODD, OVERLAP, PILE, STILL, outcome, same, variants

# Each function with the names of its parameters behind the net or the workflow.
OF_A_NET = (
    (net_defects, ()), (step_names, ()), (inputs_of, ("name",)), (outputs_of, ("name",)),
    (steps_into, ("place",)), (steps_out_of, ("place",)), (is_marking, ("value",)),
    (first_marking, ()), (last_marking, ()), (enabled_steps, ("marking",)), (is_run, ("value",)),
    (marking_after, ("run", "*marking")), (markings_on, ("run", "*marking")),
    (all_runs, ("*length",)), (reachable_markings, ("*limit",)),
    (effect, ("name",)), (is_weighting, ("value",)), (are_counts, ("value",)), (are_growing_counts, ("value",)),
    (are_rising_weights, ("value",)), (weighting_basis, ()), (counts_basis, ()), (effect_rank, ()),
    (positive_weighting, ()), (growing_counts, ()), (positive_counts, ()), (rising_weights, ()),
    (is_siphon, ("value", "*closed")), (is_trap, ("value", "*closed")), (largest_siphon, ("places", "*closed")),
    (largest_trap, ("places", "*closed")), (empty_siphon, ("marking", "*closed")), (empty_trap, ("marking", "*closed")),
)
OF_A_WORKFLOW = (
    (clusters, ()), (cluster_of, ("name",)), (enabled_clusters, ("marking",)), (is_complete, ("value",)),
    (finish_table, ()), (is_finish_table, ("value",)), (is_sound, ()), (structure_paper, ()),
    (is_structure_paper, ("value",)), (find_fault, ()), (is_fault, ("value",)),
)
RIGHT = {
    "name": "begin", "place": 2, "value": (), "marking": (1, 0, 0), "run": ("begin",),
    "*marking": (2, 0, 0), "*length": 2, "*limit": 4096, "places": (0, 2), "*closed": True,
}
WRONG = {
    "name": ["begin"], "place": True, "value": [None], "marking": (1, 0), "run": ("stop",),
    "*marking": (True, 0, 0), "*length": -1, "*limit": 0, "places": [0, 2], "*closed": False,
}


def called(function, first, others, values):
    """Returns the outcome of a call with these values of the parameters."""
    args = [values[name] for name in others if not name.startswith("*")]
    more = {name[1:]: values[name] for name in others if name.startswith("*")}
    return outcome(function, first, *args, **more)


class Nets(unittest.TestCase):

    def test_right_values(self):
        for function, others in OF_A_NET + OF_A_WORKFLOW:
            self.assertEqual(called(function, C, others, RIGHT)[0], "returned", function)

    def test_no_net(self):
        for value in self.wrong(plain.is_net):
            for function, others in OF_A_NET:
                for values in (RIGHT, WRONG):
                    result = called(function, value, others, values)
                    self.assertEqual(result, ("raised", "InvalidNet", {}), (function, value))

    def test_no_workflow(self):
        for value in self.wrong(plain.is_workflow) + [PILE, OVERLAP, APART, STILL]:
            for function, others in OF_A_WORKFLOW:
                for values in (RIGHT, WRONG):
                    result = called(function, value, others, values)
                    self.assertEqual(result, ("raised", "InvalidWorkflow", {}), (function, value))

    def wrong(self, right):
        found = [value for value in ODD if not right(value)]
        found += [value for value in list(variants(C))[::3] if not right(value)]
        return found + [list(C), (3, list(C[1])), {3: C[1]}, "net", (3,), C + (0,), (C,), (3, C[1], ()), C[1]]

    def test_only_workflows_need_to_be_workflows(self):
        for net in NETS:
            for function, others in OF_A_NET:
                self.assertNotEqual(called(function, net, others, RIGHT)[1], "InvalidNet", function)
                self.assertNotEqual(called(function, net, others, RIGHT)[1], "InvalidWorkflow", function)


class Order(unittest.TestCase):

    def test_second_parameter(self):
        expected = (
            (inputs_of, C, "name", "UnknownStep"), (outputs_of, C, "name", "UnknownStep"),
            (cluster_of, C, "name", "UnknownStep"), (steps_into, C, "place", "InvalidNumber"),
            (steps_out_of, C, "place", "InvalidNumber"), (enabled_steps, C, "marking", "InvalidMarking"),
            (enabled_clusters, C, "marking", "InvalidMarking"), (all_runs, C, "*length", "InvalidNumber"),
            (reachable_markings, C, "*limit", "InvalidNumber"), (effect, C, "name", "UnknownStep"),
            (largest_siphon, C, "places", "InvalidPlaces"), (largest_trap, C, "places", "InvalidPlaces"),
            (empty_siphon, C, "marking", "InvalidMarking"), (empty_trap, C, "marking", "InvalidMarking"),
        )
        for function, net, name, error in expected:
            self.assertEqual(called(function, net, (name,), WRONG)[:2], ("raised", error), function)

    def test_the_marking_is_checked_before_the_run(self):
        for function in (marking_after, markings_on):
            for run in (None, ["begin"], ("stop",), ("begin", "begin"), ((),)):
                for marking in ((1, 0), (True, 0, 0), [1, 0, 0], (1, 0, -1), (1, 0, 10 ** 9 + 1), 0, False, ()):
                    self.assertEqual(
                        outcome(function, C, run, marking=marking), ("raised", "InvalidMarking", {}), (run, marking)
                    )
                self.assertEqual(outcome(function, C, run, marking=None)[1], "InvalidRun")
                self.assertEqual(outcome(function, None, run, marking=0)[1], "InvalidNet")

    def test_the_limit_is_checked_before_the_search(self):
        for limit in (0, 4097, True, None):
            self.assertEqual(
                outcome(reachable_markings, PILE, limit=limit), ("raised", "InvalidNumber", {"value": limit})
            )

    def test_a_generator_raises_by_its_first_value(self):
        for args, more, error in (
            ((None,), {"length": 2}, "InvalidNet"), ((C,), {"length": 201}, "InvalidNumber"),
            ((None,), {"length": None}, "InvalidNet"),
        ):
            self.assertEqual(outcome(lambda: next(all_runs(*args, **more)))[:2], ("raised", error))


class Tests(unittest.TestCase):
    """The functions whose names begin with is_ or are_."""

    def test_every_value(self):
        values = list(ODD) + ["x" * 100000, "\x00", "\u20ac" * 9]
        for value in list(variants(C))[::2] + values:
            for function in (is_net, is_workflow):
                self.assertIn(outcome(function, value), (("returned", True), ("returned", False)))
                self.assertIs(type(function(value)), bool)
            for function in (
                is_marking, is_run, is_complete, is_weighting, are_counts, are_growing_counts, are_rising_weights,
                is_siphon, is_trap, is_finish_table, is_structure_paper, is_fault,
            ):
                for net in (C, F):
                    self.assertIs(type(function(net, value)), bool, (function, value))

    def test_of_equal_values_of_other_kinds(self):
        self.assertIs(is_net((2, (("a", (False,), (1,)),))), False)
        self.assertIs(is_net((2, (("a", (0,), (True,)),))), False)
        self.assertIs(is_marking(C, (True, 0, 0)), False)
        self.assertIs(is_run(C, ["begin"]), False)
        self.assertIs(is_complete(C, ["begin", "stop"]), False)


class Unchanged(unittest.TestCase):

    def test_equal_calls_return_equal_results(self):
        for net in (C, F, B, PILE):
            for function, others in OF_A_NET + OF_A_WORKFLOW:
                for values in (RIGHT, WRONG):
                    once = called(function, net, others, values)
                    again = called(function, deepcopy(net), others, deepcopy(values))
                    self.assertTrue(same(once, again), (function, net))
                    self.assertTrue(same(once, called(function, net, others, values)), (function, net))

    def test_arguments_are_not_changed(self):
        values = [[1, 0, 0], {"a": [1]}, ["begin"], ("begin", ["stop"]), [["a", [0], [1]]], (3, [["a", (0,), (1,)]])]
        values += [{(1, 0, 0): (0, 2), (0, 0, 1): (1, 1)}, {(1, 0, 0): [0, 2], (0, 0, 1): [1, 1]}, [0, 2]]
        for value in values:
            before = deepcopy(value)
            for function, others in OF_A_NET + OF_A_WORKFLOW:
                called(function, value, others, RIGHT)
                called(function, C, others, {name: value for name in RIGHT})
            outcome(is_net, value)
            outcome(is_workflow, value)
            outcome(make_net, value, value)
            outcome(make_net, 3, value, ("a", value, (1,)), ("a", (0,), value))
            self.assertTrue(same(value, before))

    def test_an_error_changes_nothing(self):
        before = [called(function, C, others, RIGHT) for function, others in OF_A_NET + OF_A_WORKFLOW]
        for function, others in OF_A_NET + OF_A_WORKFLOW:
            called(function, C, others, WRONG)
            called(function, None, others, WRONG)
        after = [called(function, C, others, RIGHT) for function, others in OF_A_NET + OF_A_WORKFLOW]
        self.assertTrue(same(before, after))

    def test_only_tuples_are_returned(self):
        for function, others in OF_A_NET + OF_A_WORKFLOW:
            result = called(function, F if function in (clusters, net_defects) else C, others, RIGHT)[1]
            if function == finish_table:
                self.assertIs(type(result), dict)
                result = tuple(result.items())
            if result is not None or function not in (growing_counts, rising_weights, find_fault):
                self.assertIn(type(result), (tuple, bool, int), function)
                self.assertTrue(self.flat(result), function)
        self.assertTrue(self.flat(make_net(3, *C[1][::-1])))
        self.assertTrue(self.flat(growing_counts(B)))
        self.assertTrue(self.flat(rising_weights(B)))
        self.assertTrue(self.flat((structure_paper(B), find_fault(B))))

    def flat(self, value):
        if isinstance(value, tuple):
            return all(self.flat(part) for part in value)
        return type(value) in (int, str, bool)


if __name__ == "__main__":
    unittest.main()
