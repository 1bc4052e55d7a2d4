"""Chances and expected costs."""

import unittest
from fractions import Fraction
from itertools import permutations
from math import gcd
from random import Random

from caseflow.cases.numbers import case_lengths, complete_cases
from caseflow.readings.averages import place_values
from caseflow.readings.chances import (
    avoid_chance, chances_of, cost_variance, costs_of, expected_cost, expected_counts, is_value_table, value_table,
)
from caseflow.readings.orders import order_plan
from tests import plain, plain_algebra, plain_readings
from tests.built import (
    EXACTLY_256, EXACTLY_257, LOOP_OF_100, LOOP_OF_101, around, branches, ladder,
)
from tests.pools import LATE, LOOPS, SOUND, SPLIT, TWINS, some
from tests.randoms import random_sound
from tests.samples import A, B, C, D, F, L, ODD, P, chain, choices, copy_of, in_time, outcome, same
from tests.test_orders import some_plan

SECONDS = 20
PLAN_OF_C = {(1, 0, 0): 0, (0, 0, 1): 1}
# Names that mean something to Python, and those of the parameters.
WORDS = (4, (("class", (0,), (2,)), ("costs", (2,), (1,)), ("default", (2,), (3,)), ("for", (3,), (2,)),
             ("lambda", (3,), (1,)), ("sound", (0,), (2,)), ("weights", (0,), (3,)), ("workflow", (2,), (1,))))


def some_chances(chance, workflow, most=9):
    """Returns chances of the workflow that are made up, or None."""
    if chance.random() < 0.2:
        return None
    return chances_of(workflow, **{step[0]: chance.randint(1, most) for step in workflow[1]})


def some_costs(chance, workflow):
    """Returns costs of the workflow that are made up, or None."""
    if chance.random() < 0.2:
        return None
    return tuple(chance.choice((0, 0, 1, 2, 5, 100, 10 ** 9)) for _ in workflow[1])


def is_fraction(value):
    return (
        type(value) is tuple and len(value) == 2 and all(type(part) is int for part in value)
        and value[1] > 0 and gcd(*value) == 1
    )


def wrong_chances(right):
    """Returns what are no chances, made of right ones of a workflow with a choice of the first two steps."""
    rest = right[2:]
    return (
        (), right[:-1], right + ((1, 1),), list(right), ((1, 2), (1, 3)) + rest, ((2, 4), (1, 2)) + rest,
        ((0, 1), (1, 1)) + rest, ((3, 2), (-1, 2)) + rest, ((1, 2), (1, -2)) + rest, ((-1, -2), (1, 2)) + rest,
        ((1, 2), [1, 2]) + rest, ((1, 2), (1, 2, 3)) + rest, ((1, 2), (1,)) + rest, ((1, 2), None) + rest,
        ((1, 2), "1/2") + rest, ((True, 2), (1, 2)) + rest, ((1, 2), (1, "2")) + rest, ((1, 2), 1) + rest,
        ((1, 10 ** 6 + 1), (10 ** 6, 10 ** 6 + 1)) + rest, ((1, 0), (1, 2)) + rest, ((1, 1), (1, 1)) + rest,
        ((1, 10 ** 5000), (10 ** 5000 - 1, 10 ** 5000)) + rest, {0: (1, 2)}, "chances", 1, True, ((1, 2),),
        ((1, 2), (1, 2)) + ((True, 1),) * len(rest), ((1, 2), (1, 2)) + ((2, 2),) * len(rest),
    )


class Made(unittest.TestCase):

    def test_costs(self):
        self.assertTrue(same(costs_of(F, back=7, pay=0, join=10 ** 9), (7, 1, 1, 10 ** 9, 1, 0)))
        self.assertTrue(same(costs_of(F, default=10 ** 9, back=7), (7,) + (10 ** 9,) * 5))
        self.assertTrue(same(costs_of(F), (1,) * 6))
        self.assertTrue(same(costs_of(B, left=4), (1, 4, 1)))

    def test_chances(self):
        self.assertTrue(same(chances_of(P), ((1, 2), (1, 2), (1, 1))))
        self.assertTrue(same(chances_of(P, cash=5, ship=7), ((1, 6), (5, 6), (1, 1))))
        self.assertTrue(same(chances_of(F, back=2, **{"pass": 4}), ((1, 3), (1, 1), (1, 1), (1, 1), (2, 3), (1, 1))))
        self.assertTrue(same(chances_of(choices(3), aa=2, ab=4), ((2, 7), (4, 7), (1, 7))))
        self.assertTrue(same(chances_of(L), ((1, 1),) * 3))
        self.assertTrue(same(chances_of(choices(3), aa=10 ** 6, ab=10 ** 6, ac=10 ** 6), ((1, 3),) * 3))

    def test_large_denominators(self):
        self.assertTrue(same(chances_of(P, cash=999999), ((1, 10 ** 6), (999999, 10 ** 6), (1, 1))))
        for weights in ({"cash": 10 ** 6}, {"cash": 10 ** 6, "card": 999999}, {"card": 10 ** 6, "ship": 10 ** 6}):
            self.assertTrue(same(outcome(chances_of, P, **weights), ("raised", "InvalidChances", {})), weights)
        self.assertTrue(same(chances_of(P, cash=10 ** 6, card=2 * 10 ** 5), ((1, 6), (5, 6), (1, 1))))
        # In lowest terms the first one is small, but another one of the cluster is not.
        self.assertEqual(outcome(chances_of, choices(3), aa=500000, ab=499999, ac=1)[0], "returned")
        self.assertTrue(same(outcome(chances_of, choices(3), aa=500001, ab=500000, ac=1), ("raised", "InvalidChances", {})))

    def test_names_that_are_words(self):
        self.assertTrue(same(
            costs_of(WORDS, **{"class": 2, "for": 3, "lambda": 4, "costs": 5, "weights": 6, "sound": 7}),
            (2, 5, 1, 3, 4, 7, 6, 1),
        ))
        # These are parameters, so the steps with their names cannot be named.
        self.assertTrue(same(costs_of(WORDS, default=9, costs=0), (9, 0, 9, 9, 9, 9, 9, 9)))
        self.assertTrue(same(
            chances_of(WORDS, **{"class": 2, "default": 3, "weights": 4, "costs": 5}),
            ((2, 7), (5, 9), (1, 3), (1, 2), (1, 2), (1, 7), (4, 7), (1, 9)),
        ))
        self.assertTrue(same(chances_of(WORDS), chances_of(WORDS, default=1, costs=1)))

    def test_unknown_names(self):
        for call in (costs_of, chances_of):
            for names, smallest in (
                (("sell",), "sell"), (("ship", "sell"), "sell"), (("zz", "aa", "card"), "aa"), (("Card",), "Card"),
                (("", "card"), ""), (("x" * 9, "y"), "x" * 9), (("card ", "ship"), "card "), (("b", "_a"), "_a"),
            ):
                for value in (2, None, -1, "1", [1], 10 ** 40):
                    result = outcome(call, P, **{name: value for name in names})
                    self.assertTrue(same(result, ("raised", "UnknownStep", {"name": smallest})), names)

    def test_wrong_costs(self):
        for value in (-1, 10 ** 9 + 1, True, False, None, "1", (1,), [1], {}, 10 ** 40, 0.5, (1, 2)):
            self.assertTrue(same(outcome(costs_of, P, ship=value), ("raised", "InvalidCosts", {})), value)
            self.assertTrue(same(outcome(costs_of, P, card=3, ship=value, cash=0), ("raised", "InvalidCosts", {})))
            self.assertTrue(same(
                outcome(costs_of, P, default=value, ship=2), ("raised", "InvalidNumber", {"value": value})
            ), value)
            self.assertTrue(same(outcome(costs_of, P, ship=value, no=1), ("raised", "UnknownStep", {"name": "no"})))
            self.assertTrue(same(
                outcome(costs_of, P, default=value, no=1), ("raised", "InvalidNumber", {"value": value})
            ), value)
        self.assertTrue(same(costs_of(P, default=0, ship=10 ** 9), (0, 0, 10 ** 9)))

    def test_wrong_weights(self):
        for value in (0, -1, 10 ** 6 + 1, True, False, None, "1", (1,), [1], {}, 10 ** 40, 0.5):
            self.assertTrue(same(outcome(chances_of, P, card=value), ("raised", "InvalidChances", {})), value)
            self.assertTrue(same(outcome(chances_of, P, cash=2, ship=value), ("raised", "InvalidChances", {})), value)
            self.assertTrue(same(outcome(chances_of, P, card=value, no=1), ("raised", "UnknownStep", {"name": "no"})))

    def test_no_workflow(self):
        for value in list(ODD) + [list(C), (3, list(C[1]))]:
            if not plain.is_workflow(value):
                for call in (costs_of, chances_of):
                    self.assertEqual(outcome(call, value), ("raised", "InvalidWorkflow", {}), value)
                    self.assertEqual(outcome(call, value, no=None), ("raised", "InvalidWorkflow", {}), value)
                self.assertEqual(outcome(costs_of, value, default=-1), ("raised", "InvalidWorkflow", {}), value)

    def test_arguments_are_not_changed(self):
        named = {"card": 2, "ship": 3}
        costs_of(P, **named)
        chances_of(P, **named)
        self.assertEqual(named, {"card": 2, "ship": 3})


class Readings(unittest.TestCase):
    """Each reading is compared with equations between all markings of closed plans."""

    def test_small_workflows(self):
        chance = Random(71)
        for workflow in SOUND:
            chances, costs = some_chances(chance, workflow), some_costs(chance, workflow)
            for plan in (order_plan(workflow), some_plan(chance, workflow)):
                self.agree(workflow, plan, chances, costs)

    def agree(self, workflow, plan, chances, costs):
        numbers = plain_readings.chances_of(workflow, chances)
        prices = plain_readings.costs_of(workflow, costs)
        values = plain_readings.values(workflow, plan, numbers, prices)
        pair = plain_readings.as_pair
        given = {"chances": chances, "costs": costs}
        table = {key: pair(value) for key, value in values.items()}
        self.assertTrue(same(expected_cost(workflow, **given), table[plain.first(workflow)]), workflow)
        variance = plain_readings.variance(workflow, plan, numbers, prices)
        self.assertTrue(same(cost_variance(workflow, **given), pair(variance)), workflow)
        counts = plain_readings.counts(workflow, plan, numbers)
        self.assertTrue(same(expected_counts(workflow, chances=chances), tuple(map(pair, counts))), workflow)
        self.assertIs(is_value_table(workflow, (plan, table), **given), True)
        for names in self.names(workflow):
            expected = plain_readings.avoiding(workflow, plan, numbers, names)
            self.assertTrue(same(avoid_chance(workflow, names, chances=chances), pair(expected)), (workflow, names))

    def test_every_order(self):
        chance = Random(82)
        many = 0
        for workflow in some(SOUND, 60, 83) + [LATE, A]:
            if len(plain_algebra.groups(workflow)) <= 4 or workflow in (LATE, A):
                chances, costs = some_chances(chance, workflow), some_costs(chance, workflow)
                for order in list(permutations(range(len(plain_algebra.groups(workflow)))))[:30]:
                    many += 1
                    self.agree(workflow, order_plan(workflow, order=order), chances, costs)
        self.assertGreater(many, 100)

    def names(self, workflow):
        names = [step[0] for step in workflow[1]]
        chance = Random(len(names))
        return [(), tuple(names)] + [tuple(chance.choices(names, k=many)) for many in (1, 1, 2, 3)]

    def test_sums_over_all_cases(self):
        chance = Random(72)
        many = 0
        for workflow in SOUND:
            longest = case_lengths(workflow)[1]
            if longest is None:
                continue
            many += 1
            chances, costs = some_chances(chance, workflow), some_costs(chance, workflow)
            numbers = plain_readings.chances_of(workflow, chances)
            prices = plain_readings.costs_of(workflow, costs)
            cases = [
                (plain_readings.product(plain_readings.of_run(workflow, numbers, run)),
                 sum(plain_readings.of_run(workflow, prices, run)), run)
                for run in complete_cases(workflow, longest=longest)
            ]
            self.assertEqual(sum(part for part, _, _ in cases), 1)
            mean = sum(part * cost for part, cost, _ in cases)
            self.assertEqual(Fraction(*expected_cost(workflow, chances=chances, costs=costs)), mean)
            variance = sum(part * (cost - mean) ** 2 for part, cost, _ in cases)
            self.assertEqual(Fraction(*cost_variance(workflow, chances=chances, costs=costs)), variance)
            counts = [sum(part * run.count(step[0]) for part, _, run in cases) for step in workflow[1]]
            self.assertEqual([Fraction(*count) for count in expected_counts(workflow, chances=chances)], counts)
            for names in self.names(workflow):
                left = sum(part for part, _, run in cases if not set(run) & set(names))
                self.assertEqual(Fraction(*avoid_chance(workflow, names, chances=chances)), left)
        self.assertGreater(many, 60)

    def test_some(self):
        self.assertTrue(same([expected_cost(C), cost_variance(C)], [(3, 1), (2, 1)]))
        self.assertTrue(same([expected_cost(chain(29)), cost_variance(chain(29))], [(29, 1), (0, 1)]))
        self.assertTrue(same(expected_cost(ladder(20), costs=(2, 4) * 20), (60, 1)))
        self.assertTrue(same(expected_cost(P, costs=(0, 0, 0)), (0, 1)))
        self.assertTrue(same(expected_cost(choices(40), costs=tuple(range(40))), (39, 2)))
        self.assertTrue(same(cost_variance(choices(2), costs=(0, 10 ** 9)), (25 * 10 ** 16, 1)))
        # The loop is left with a chance of one in a million.
        rare = chances_of(C, again=999999)
        self.assertTrue(same([expected_cost(C, chances=rare), cost_variance(C, chances=rare)],
                             [(10 ** 6 + 1, 1), (999999000000, 1)]))
        self.assertTrue(same(expected_counts(C, chances=rare), ((999999, 1), (1, 1), (1, 1))))
        self.assertTrue(same(avoid_chance(C, ("again",), chances=rare), (1, 10 ** 6)))

    def test_avoided_names(self):
        for names, expected in (
            ((), (1, 1)), (("back",), (1, 2)), (("back", "back"), (1, 2)), (("check",), (0, 1)), (("fork", "back"), (0, 1)),
            (("back", "pass"), (0, 1)), (("join",), (0, 1)), (("pass",), (0, 1)),
        ):
            self.assertTrue(same(avoid_chance(F, names), expected), names)
        # What is left is a loop without a way out.
        self.assertTrue(same(avoid_chance(C, ("stop",)), (0, 1)))
        self.assertTrue(same(avoid_chance(TWINS, ("c", "d"), chances=chances_of(TWINS, e=7)), (0, 1)))
        self.assertTrue(same(avoid_chance(TWINS, ("c",), chances=chances_of(TWINS, e=7)), (1, 2)))

    def test_larger_workflows(self):
        chance = Random(73)
        for workflow in random_sound(15, 5) + [LOOP_OF_100, EXACTLY_256, around(branches((3, 3), 3))]:
            chances, costs = some_chances(chance, workflow, 10 ** 4), some_costs(chance, workflow)
            given = {"chances": chances, "costs": costs}
            table = in_time(SECONDS, lambda: outcome(value_table, workflow, **given))
            if table[0] == "returned":
                self.assertIs(in_time(SECONDS, lambda: is_value_table(workflow, table[1], **given)), True)
                self.assertTrue(same(table[1][1][plain.first(workflow)], expected_cost(workflow, **given)))
                counts = expected_counts(workflow, chances=chances)
                prices = plain_readings.costs_of(workflow, costs)
                total = sum(Fraction(*count) * cost for count, cost in zip(counts, prices))
                self.assertEqual(Fraction(*expected_cost(workflow, **given)), total)
                self.assertTrue(is_fraction(in_time(SECONDS, lambda: cost_variance(workflow, **given))))
                for names in self.names(workflow):
                    self.assertTrue(is_fraction(in_time(SECONDS, lambda: avoid_chance(workflow, names, chances=chances))))
                self.assertTrue(same(avoid_chance(workflow, (), chances=chances), (1, 1)))

    def test_values_of_places(self):
        # The mean cost from a marking is the sum of values of the places with its tokens.
        chance = Random(74)
        for workflow in some(SOUND, 60, 75) + [D, LOOPS, SPLIT]:
            chances, costs = some_chances(chance, workflow), some_costs(chance, workflow)
            numbers = plain_readings.chances_of(workflow, chances)
            prices = plain_readings.costs_of(workflow, costs)
            values = place_values(
                workflow, [plain_readings.as_pair(part) for part in numbers], [(cost, 1) for cost in prices]
            )
            self.assertEqual(values[1], (0, 1))
            for marking, value in plain_readings.values(workflow, some_plan(chance, workflow), numbers, prices).items():
                self.assertEqual(sum(Fraction(*values[p]) * tokens for p, tokens in enumerate(marking)), value)


class ValueTable(unittest.TestCase):

    def test_small_workflows(self):
        chance = Random(76)
        for workflow in some(SOUND, 80, 77):
            given = {"chances": some_chances(chance, workflow), "costs": some_costs(chance, workflow)}
            found = value_table(workflow, **given)
            self.assertIs(is_value_table(workflow, found, **given), True)
            plan, table = found
            self.assertTrue(same([list(plan), list(table)], [sorted(plan), sorted(table)]))
            self.assertTrue(all(is_fraction(value) for value in table.values()))
            numbers = plain_readings.chances_of(workflow, given["chances"])
            prices = plain_readings.costs_of(workflow, given["costs"])
            expected = plain_readings.values(workflow, plan, numbers, prices)
            self.assertEqual(table, {key: plain_readings.as_pair(value) for key, value in expected.items()})
            self.assertTrue(same(found, value_table(copy_of(workflow), **copy_of(given))))

    def test_new_dicts_each_time(self):
        plan, table = value_table(C)
        plan.clear()
        table.clear()
        self.assertTrue(same(value_table(C), ({(0, 0, 1): 1, (1, 0, 0): 0}, {
            (0, 0, 1): (2, 1), (0, 1, 0): (0, 1), (1, 0, 0): (3, 1),
        })))

    def test_one_entry_otherwise(self):
        chance = Random(78)
        for workflow in some(SOUND, 50, 79) + [LATE, D, SPLIT]:
            given = {"chances": some_chances(chance, workflow), "costs": some_costs(chance, workflow)}
            plan, table = value_table(workflow, **given)
            for key in list(table)[:6]:
                above, below = table[key]
                for value in (
                    (above + below, below), (2 * above, 2 * below), (-above, -below), (above + 1, below), [above, below],
                    (above,), above, None, (True, 1), (above, True), (above, below, 1), "0", (above - 1, below),
                ):
                    if not same(value, table[key]):
                        changed = (plan, {**table, key: value})
                        self.assertIs(is_value_table(workflow, changed, **given), False, (workflow, changed))
                less = {other: table[other] for other in table if other != key}
                self.assertIs(is_value_table(workflow, (plan, less), **given), False)
                if key in plan:
                    fewer = {other: plan[other] for other in plan if other != key}
                    self.assertIs(is_value_table(workflow, (fewer, less), **given), False)

    def test_other_plans(self):
        chance = Random(80)
        for workflow in some(SOUND, 40, 81) + [LATE, F]:
            given = {"chances": some_chances(chance, workflow), "costs": some_costs(chance, workflow)}
            numbers = plain_readings.chances_of(workflow, given["chances"])
            prices = plain_readings.costs_of(workflow, given["costs"])
            # Two plans joined into one may have keys that no run meets.
            plan = {**some_plan(chance, workflow), **order_plan(workflow), **some_plan(chance, workflow)}
            values = plain_readings.values(workflow, plan, numbers, prices)
            table = {key: plain_readings.as_pair(value) for key, value in values.items()}
            self.assertIs(is_value_table(workflow, (plan, table), **given), True)
            self.assertIs(is_value_table(workflow, (order_plan(workflow), table), **given), len(plan) == len(order_plan(workflow)))

    def test_keys_that_no_run_meets(self):
        marking, after = (0, 0, 1, 0, 0, 0, 0, 1), (0, 0, 0, 0, 1, 0, 0, 1)
        plan, table = value_table(D)
        plan = {**plan, marking: 1}
        value = Fraction(*table[after]) + 1
        self.assertIs(is_value_table(D, (plan, {**table, marking: plain_readings.as_pair(value)})), True)
        self.assertIs(is_value_table(D, (plan, {**table, marking: plain_readings.as_pair(value + 1)})), False)
        self.assertIs(is_value_table(D, (plan, table)), False)

    def test_wrong_values(self):
        plan, table = {(1, 0, 0): 0, (0, 0, 1): 1}, {(1, 0, 0): (3, 1), (0, 0, 1): (2, 1), (0, 1, 0): (0, 1)}
        for value in (
            (plan, {**table, (0, 1, 0): (0, 2)}), (plan, {**table, (0, 1, 0): (1, 1)}), (plan, {**table, (0, 1, 0): 0}),
            (plan, {**table, (0, 1, 0): (False, 1)}), (plan, {**table, (0, 1, 0): (0, True)}),
            (plan, {**table, (0, 0, 0): (0, 1)}), (plan, {(1, 0, 0): (3, 1), (0, 0, 1): (2, 1), (0, True, 0): (0, 1)}),
            (plan, {(1, 0, 0): (3, 1), (0, 0, 1): (2, 1)}), ({**plan, (0, 1, 0): 0}, table), (table, plan),
            ({(True, 0, 0): 0, (0, 0, 1): 1}, table), ({(1, 0, 0): 0, (0, 0, 1): True}, table), [plan, table],
            (plan, table, table), (plan,), (plan, None), (None, table), (plan, list(table.items())), ({}, {}),
            ({(1, 0, 0): 0}, {(1, 0, 0): (3, 1), (0, 1, 0): (0, 1)}), "x" * 100000, {0: plan, 1: table},
            (plan, {**table, (1, 0, 0): (6, 2)}), (plan, {**table, (1, 0, 0): (-3, -1)}),
        ) + ODD:
            before = copy_of(value)
            self.assertIs(is_value_table(C, value), False, value)
            self.assertTrue(same(value, before))
        self.assertIs(is_value_table(C, (plan, table)), True)
        self.assertIs(is_value_table(C, (plan, table), costs=(1, 1, 2)), False)
        self.assertIs(is_value_table(C, (plan, table), chances=chances_of(C, again=2)), False)

    def test_several_tokens(self):
        # With two tokens on place 2 the plan never comes to the last marking, so such a key cannot be had.
        plan, table = value_table(C)
        for key in ((0, 0, 2), (0, 1, 1), (2, 0, 0)):
            self.assertIs(is_value_table(C, ({**plan, key: 1}, {**table, key: (4, 1)})), False)


class Limits(unittest.TestCase):

    def calls(self, workflow):
        return [
            (call, outcome(call, workflow)) for call in (
                expected_cost, cost_variance, value_table, expected_counts, lambda sound: avoid_chance(sound, ()),
                lambda sound: avoid_chance(sound, (sound[1][0][0],)),
            )
        ]

    def test_exactly_256_and_257_markings(self):
        for _, result in self.calls(EXACTLY_256):
            self.assertEqual(result[0], "returned")
        for _, result in self.calls(EXACTLY_257):
            self.assertTrue(same(result, ("raised", "TooMany", {"limit": 256})))

    def test_exactly_100_and_101_on_loops(self):
        for _, result in self.calls(LOOP_OF_100):
            self.assertEqual(result[0], "returned")
        for _, result in self.calls(LOOP_OF_101):
            self.assertTrue(same(result, ("raised", "TooMany", {"limit": 100})))
        # With very many markings on the loop their number counts first.
        for _, result in self.calls(around(branches((2,) * 6, 2))):
            self.assertTrue(same(result, ("raised", "TooMany", {"limit": 100})))
        many = around(branches((3,) * 5, 1))
        self.assertIsNone(plain_algebra.met(many, 256))
        for _, result in self.calls(many):
            self.assertTrue(same(result, ("raised", "TooMany", {"limit": 256})))

    def test_arguments_come_first(self):
        for workflow in (EXACTLY_257, LOOP_OF_101):
            for call in (expected_cost, cost_variance, value_table):
                self.assertEqual(outcome(call, workflow, chances=1), ("raised", "InvalidChances", {}))
                self.assertEqual(outcome(call, workflow, costs=1), ("raised", "InvalidCosts", {}))
            self.assertEqual(outcome(expected_counts, workflow, chances=()), ("raised", "InvalidChances", {}))
            self.assertEqual(outcome(avoid_chance, workflow, ("no",)), ("raised", "UnknownStep", {"name": "no"}))
            self.assertIs(is_value_table(workflow, None), False)
            first, steps = plain.first(workflow), plain_readings.costs_of(workflow, None)
            plan = order_plan(workflow, order=tuple(range(len(plain_algebra.groups(workflow))))[::-1])
            values = place_values(workflow, plain_pairs(workflow), [(cost, 1) for cost in steps])
            table = {key: plain_readings.as_pair(sum(Fraction(*values[p]) * n for p, n in enumerate(key)))
                     for key in list(plan) + [plain.last(workflow)]}
            self.assertIn(first, table)
            # Nothing is too many for the test of a table.
            self.assertIs(is_value_table(workflow, (plan, table)), True)


def plain_pairs(workflow):
    return [plain_readings.as_pair(part) for part in plain_readings.chances_of(workflow, None)]


class WrongArguments(unittest.TestCase):

    def test_chances(self):
        for value in wrong_chances(((1, 2), (1, 2), (1, 1))) + ODD:
            if value is None:
                continue
            for call in (
                lambda: expected_cost(P, chances=value, costs=0), lambda: cost_variance(P, chances=value, costs=0),
                lambda: value_table(P, chances=value, costs=0), lambda: is_value_table(P, 0, chances=value, costs=0),
                lambda: expected_counts(P, chances=value), lambda: avoid_chance(P, (), chances=value),
            ):
                self.assertEqual(outcome(call), ("raised", "InvalidChances", {}), value)

    def test_costs(self):
        for value in ODD + (
            (1, 1), (1, 1, 1, 1), [1, 1, 1], (1, 1, -1), (1, 1, True), (1, 1, None), (1, 1, 10 ** 9 + 1), (1, 1, "1"),
            (1, 1, (1,)), (1, 1, 10 ** 5000), {0: 1, 1: 1, 2: 1}, "111", (1, 1, 0.5), False,
        ):
            if value is None or same(value, (1, 0, 0)):
                continue
            for call in (expected_cost, cost_variance, value_table, lambda sound, costs: is_value_table(sound, 0, costs=costs)):
                self.assertEqual(outcome(call, P, costs=value), ("raised", "InvalidCosts", {}), value)

    def test_names(self):
        for value in ODD + (["card"], {"card": 1}, "card", None, True, 0):
            if type(value) is not tuple:
                self.assertTrue(same(outcome(avoid_chance, P, value, chances=0),
                                     ("raised", "UnknownStep", {"name": value})), value)
            elif value not in ((), ("card", "ship")):
                self.assertTrue(same(outcome(avoid_chance, P, value, chances=0),
                                     ("raised", "UnknownStep", {"name": value[0]})), value)
        for names, first in (
            (("card", "no", "none"), "no"), (("card", None), None), (("card", ["cash"]), ["cash"]), (((),), ()),
            (("card", ("cash",)), ("cash",)), (("card", True, 0), True), (("Card",), "Card"), (("ship", {"a": [1]}), {"a": [1]}),
        ):
            self.assertTrue(same(outcome(avoid_chance, P, names), ("raised", "UnknownStep", {"name": first})), names)

    def test_right_chances(self):
        for chances in (
            ((1, 2), (1, 2), (1, 1)), ((1, 10 ** 6), (999999, 10 ** 6), (1, 1)), ((2, 3), (1, 3), (1, 1)),
        ):
            self.assertTrue(same(expected_cost(P, chances=chances), (2, 1)))
            self.assertTrue(same(expected_counts(P, chances=chances), chances))
        self.assertTrue(same(expected_cost(A, chances=chances_of(A, air=2), costs=(6, 1, 2, 3)), (19, 3)))

    def test_arguments_are_not_changed(self):
        table = value_table(F)
        before = copy_of(table)
        is_value_table(F, table)
        self.assertTrue(same(table, before))
        self.assertTrue(same(table, value_table(F)))


if __name__ == "__main__":
    unittest.main()
