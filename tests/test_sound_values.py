"""What holds for all functions of sound workflows: their arguments, the order of the errors, what is returned."""

import unittest
from copy import deepcopy
from itertools import combinations

from caseflow.cases.cases import (
    are_exchanges, count_orders, difference, exchanges, is_difference, normal_run, runs_of_case, same_case,
)
from caseflow.cases.numbers import Case, case_at, case_lengths, case_number, complete_cases, count_cases
from caseflow.readings.chances import (
    avoid_chance, cost_variance, expected_cost, expected_counts, is_value_table, pass_chance, value_table,
)
from caseflow.readings.costs import chances_of_costs, count_of_cost, free_loop, is_free_loop
from caseflow.readings.extremes import greatest_paper, is_greatest_paper, is_least_paper, least_paper
from caseflow.readings.orders import (
    is_closed_plan, is_order, is_weight_table, order_plan, ordered_run, planned_run, weight_sum,
)
from caseflow.sound.papers import is_structure_paper
from tests import plain
from tests.built import FAULT_BEHIND_4096, GROW, UNSOUND
from tests.pools import NOT_SOUND, some
from tests.samples import APART, B, C, F, L, ODD, OVERLAP, PILE, STILL, copy_of, outcome, same, variants

# Each function with its parameters behind the workflow, in their order; those with a star are passed by keyword.
FUNCTIONS = (
    (normal_run, "run"), (same_case, "one other"), (exchanges, "one other"), (are_exchanges, "one other value"),
    (difference, "one other"), (is_difference, "one other value"), (count_orders, "run"), (runs_of_case, "run"),
    (count_cases, "length"), (case_at, "length number"), (case_number, "complete"), (complete_cases, "*longest"),
    (case_lengths, ""), (Case, "run"), (Case.numbered, "length number"),
    (is_order, "value"), (is_closed_plan, "value"), (order_plan, "*order"), (ordered_run, "complete *order"),
    (planned_run, "complete plan"), (weight_sum, "weights *order"), (is_weight_table, "weights value"),
    (expected_cost, "*chances *costs"), (cost_variance, "*chances *costs"), (value_table, "*chances *costs"),
    (is_value_table, "value *chances *costs"), (expected_counts, "*chances"), (avoid_chance, "names *chances"),
    (pass_chance, "marking *chances"),
    (least_paper, "*costs"), (is_least_paper, "value *costs"), (greatest_paper, "*costs"),
    (is_greatest_paper, "value *costs"),
    (count_of_cost, "cost *costs"), (free_loop, "cost *costs"), (is_free_loop, "cost value *costs"),
    (chances_of_costs, "limit *chances *costs"),
)
RIGHT = {
    "run": ("begin",), "one": ("begin", "again"), "other": ("begin", "again"), "value": (), "length": 3, "number": 0,
    "complete": ("begin", "again", "stop"), "*longest": 5, "*order": (1, 0), "plan": {(1, 0, 0): 0, (0, 0, 1): 1},
    "weights": (2, 3, -4), "*chances": ((1, 3), (1, 1), (2, 3)), "*costs": (0, 2, 5), "names": ("again", "again"),
    "marking": (0, 0, 1), "cost": 7, "limit": 9,
}
WRONG = {
    "run": (("stop",), "InvalidRun", {"at": 0}), "one": (("begin", None), "InvalidRun", {"at": 1}),
    "other": (["begin"], "InvalidRun", {"at": 0}), "length": (True, "InvalidNumber", {"value": True}),
    "number": (-1, "InvalidNumber", {"value": -1}), "complete": (("begin",), "InvalidRun", {"at": 1}),
    "*longest": (201, "InvalidNumber", {"value": 201}), "*order": ((0, 0), "InvalidOrder", {}),
    "plan": ({(1, 0, 0): 0}, "InvalidPlan", {}), "weights": ((2, 3), "InvalidNumber", {"value": (2, 3)}),
    "*chances": (((1, 2), (1, 1), (1, 3)), "InvalidChances", {}), "*costs": ((0, -1, 5), "InvalidCosts", {}),
    "names": (("again", "gone"), "UnknownStep", {"name": "gone"}), "marking": ((0, 0), "InvalidMarking", {}),
    "cost": (1001, "InvalidNumber", {"value": 1001}), "limit": ([3], "InvalidNumber", {"value": [3]}),
}


def call(function, parameters, first, values):
    """Returns the outcome of a call with these values of the parameters."""
    args = [values[name] for name in parameters.split() if not name.startswith("*")]
    more = {name[1:]: values[name] for name in parameters.split() if name.startswith("*")}
    return outcome(function, first, *args, **more)


def values_with(wrong):
    """Returns the right values of all parameters, but for these."""
    return {**RIGHT, **{name: WRONG[name][0] for name in wrong}}


class Errors(unittest.TestCase):

    def test_right_values(self):
        for function, parameters in FUNCTIONS:
            self.assertEqual(call(function, parameters, C, RIGHT)[0], "returned", function)

    def test_each_wrong_value(self):
        for function, parameters in FUNCTIONS:
            for name in parameters.split():
                if name != "value":
                    _, error, bears = WRONG[name]
                    result = call(function, parameters, C, values_with([name]))
                    self.assertTrue(same(result, ("raised", error, bears)), (function, name))

    def test_the_first_wrong_value_decides(self):
        for function, parameters in FUNCTIONS:
            names = [name for name in parameters.split() if name != "value"]
            for many in (2, 3):
                for wrong in combinations(names, many):
                    _, error, bears = WRONG[wrong[0]]
                    result = call(function, parameters, C, values_with(wrong))
                    self.assertTrue(same(result, ("raised", error, bears)), (function, wrong))

    def test_not_sound_comes_before_all_others(self):
        workflows = (B, L, GROW, UNSOUND, FAULT_BEHIND_4096) + tuple(some(NOT_SOUND, 10, 131))
        for function, parameters in FUNCTIONS:
            for workflow in workflows:
                for values in (RIGHT, values_with(WRONG)):
                    result = call(function, parameters, workflow, values)
                    self.assertEqual(result[:2], ("raised", "NotSound"), (function, workflow))
                    self.assertEqual(list(result[2]), ["paper"])
                    paper = result[2]["paper"]
                    self.assertIs(is_structure_paper(workflow, paper), True)
                    self.assertNotEqual(paper[0], "sound")

    def test_no_workflow_comes_before_that(self):
        wrong = [value for value in ODD if not plain.is_workflow(value)] + [PILE, OVERLAP, APART, STILL]
        wrong += [value for value in list(variants(C))[::9] if not plain.is_workflow(value)] + [list(C), "net", B[1]]
        for function, parameters in FUNCTIONS:
            for value in wrong:
                result = call(function, parameters, value, values_with(WRONG))
                self.assertEqual(result, ("raised", "InvalidWorkflow", {}), (function, value))
            for value in wrong[::7]:
                self.assertEqual(call(function, parameters, value, RIGHT), ("raised", "InvalidWorkflow", {}))

    def test_odd_values(self):
        """Every odd value of a parameter is right or raises the error of this parameter."""
        for function, parameters in FUNCTIONS:
            for name in parameters.split():
                for value in ODD:
                    result = call(function, parameters, C, {**RIGHT, name: value})
                    if name == "value":
                        self.assertEqual(result[0], "returned", (function, value))
                        self.assertIs(type(result[1]), bool, (function, value))
                    elif result[0] == "raised":
                        self.assertEqual(result[1], WRONG[name][1], (function, name, value))


class Results(unittest.TestCase):

    def test_equal_calls_return_equal_results(self):
        for function, parameters in FUNCTIONS:
            for values in (RIGHT, values_with(WRONG)) + tuple(values_with([name]) for name in parameters.split()
                                                              if name in WRONG):
                once = call(function, parameters, C, values)
                again = call(function, parameters, deepcopy(C), deepcopy(values))
                if function in (Case, Case.numbered) and once[0] == "returned":
                    self.assertIs(once[1] == again[1], True)
                else:
                    self.assertTrue(same(once, again), function)

    def test_arguments_are_not_changed(self):
        values = [[1, 0, 0], {"a": [1]}, ["begin"], ("begin", ["stop"]), {(1, 0, 0): [0, 2], (0, 0, 1): [1]}]
        values += [{(1, 0, 0): 0, (0, 0, 1): 1}, ({(1, 0, 0): 0, (0, 0, 1): 1}, {(0, 1, 0): [1]}), [[0], (1, [2])]]
        for value in values:
            before = copy_of(value)
            for function, parameters in FUNCTIONS:
                call(function, parameters, value, RIGHT)
                for name in parameters.split():
                    call(function, parameters, C, {**RIGHT, name: value})
            self.assertTrue(same(value, before))

    def test_kept_values_of_errors_do_not_change(self):
        value = [1, [2]]
        for function, name in ((count_cases, "length"), (count_of_cost, "cost"), (weight_sum, "weights *order")):
            result = call(function, name, C, {**RIGHT, name.split()[0]: value})
            value[1].append(3)
            self.assertTrue(same(result[2]["value"], [1, [2]]))
            del value[1][1]
        result = call(avoid_chance, "names *chances", C, {**RIGHT, "names": value})
        value.clear()
        self.assertTrue(same(result[2]["name"], [1, [2]]))

    def test_an_error_changes_nothing(self):
        def results():
            return [call(function, parameters, F, {"value": ()}) for function, parameters in FUNCTIONS
                    if parameters in ("", "value")]

        before = results()
        for function, parameters in FUNCTIONS:
            call(function, parameters, C, values_with(WRONG))
            call(function, parameters, None, RIGHT)
        self.assertTrue(same(before, results()))

    def test_kinds_of_values(self):
        for function, parameters in FUNCTIONS:
            result = call(function, parameters, C, RIGHT)[1]
            if type(result) is not Case:
                self.flat(result, function)

    def flat(self, value, function):
        """Fails unless the value has only tuples, dicts with ascending keys, integers and strings."""
        if isinstance(value, dict):
            self.assertEqual(list(value), sorted(value), function)
            for key in value:
                self.flat(key, function)
                self.flat(value[key], function)
        elif isinstance(value, tuple):
            for part in value:
                self.flat(part, function)
        else:
            self.assertIn(type(value), (int, str, bool, type(None)), function)


if __name__ == "__main__":
    unittest.main()
