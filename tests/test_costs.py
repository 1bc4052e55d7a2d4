"""Numbers and chances of the cases with a cost, and free loops."""

import unittest
from fractions import Fraction
from random import Random

from caseflow.cases.numbers import case_lengths, complete_cases, count_cases
from caseflow.readings.chances import chances_of, expected_cost
from caseflow.readings.costs import chances_of_costs, count_of_cost, free_loop, is_free_loop
from tests import plain_algebra, plain_readings
from tests.built import (
    EXACTLY_256, EXACTLY_257, LOOP_OF_100, LOOP_OF_101, around, branches, ladder, rings,
)
from tests.pools import FEW_RUNS, LOOPS, SOUND, SPLIT, TWINS, some
from tests.samples import C, D, F, ODD, P, choices, copy_of, in_time, outcome, same
from tests.test_chances import some_chances, wrong_chances
from tests.test_orders import some_plan

SECONDS = 60
# A loop of two steps and one of a single step, with a way out after each.
TURNS = (5, (("a", (0,), (2,)), ("b", (2,), (3,)), ("c", (3,), (2,)), ("d", (3,), (4,)), ("e", (4,), (4,)),
             ("f", (4,), (1,))))


def no_number(value):
    return ("raised", "InvalidNumber", {"value": value})


def costs_for(chance, workflow, costs=(0, 0, 1, 1, 2, 3, 10 ** 9)):
    return tuple(chance.choice(costs) for _ in workflow[1])


def cost_of(workflow, costs, run):
    return sum(plain_readings.of_run(workflow, costs, run))


class CountOfCost(unittest.TestCase):

    def test_without_loops(self):
        chance = Random(111)
        many = 0
        for workflow in SOUND:
            longest = case_lengths(workflow)[1]
            if longest is None:
                continue
            many += 1
            costs = costs_for(chance, workflow)
            found = [cost_of(workflow, costs, run) for run in complete_cases(workflow, longest=longest)]
            for cost in range(longest * 3 + 2):
                self.assertTrue(same(count_of_cost(workflow, cost, costs=costs), found.count(cost)), (workflow, cost))
        self.assertGreater(many, 60)

    def test_loops_that_cost(self):
        chance = Random(112)
        for workflow in FEW_RUNS:
            costs = costs_for(chance, workflow, (1, 1, 2, 3))
            found = [cost_of(workflow, costs, run) for run in complete_cases(workflow, longest=8)]
            for cost in range(9):
                self.assertTrue(same(count_of_cost(workflow, cost, costs=costs), found.count(cost)), (workflow, cost))
            for cost in (5, 20, 100):
                # With costs of 1 the cost is the number of steps.
                self.assertTrue(same(count_of_cost(workflow, cost), count_cases(workflow, cost)))
                self.assertTrue(same(count_of_cost(workflow, cost, costs=(1,) * len(workflow[1])), count_cases(workflow, cost)))

    def test_free_loops(self):
        """Compared with a search through all markings and costs."""
        chance = Random(113)
        told = []
        for workflow in some(SOUND, 120, 114) + [TURNS, LOOPS, SPLIT, TWINS, D, F]:
            for costs in (costs_for(chance, workflow), (0,) * len(workflow[1])):
                for cost in range(5):
                    expected = plain_readings.has_free_loop(workflow, costs, cost)
                    told.append(expected)
                    self.assertIs(count_of_cost(workflow, cost, costs=costs) is None, expected, (workflow, costs, cost))
                    found = free_loop(workflow, cost, costs=costs)
                    self.assertIs(found is not None, expected, (workflow, costs, cost))
                    if expected:
                        self.assertIs(plain_readings.is_free(workflow, costs, cost, found), True, (workflow, costs, found))
                        self.assertIs(is_free_loop(workflow, cost, found, costs=costs), True)
                        self.assertTrue(same(found, free_loop(copy_of(workflow), cost, costs=copy_of(costs))))
        self.assertGreater(told.count(True), 50)
        self.assertGreater(told.count(False), 500)

    def test_finitely_many_beside_a_free_loop(self):
        # The loop of b and c costs nothing, but who leaves it pays for d; e costs 3 each time.
        costs = (1, 0, 0, 2, 3, 0)
        for cost, expected in ((0, 0), (1, 0), (2, 0), (3, None), (4, 0), (5, 0), (6, None), (7, 0), (1000, 0), (999, None)):
            self.assertIs(count_of_cost(TURNS, cost, costs=costs), expected, cost)
        # Here a case need not come to the loop that costs nothing.
        net = (4, (("a", (0,), (2,)), ("b", (2,), (1,)), ("c", (2,), (3,)), ("d", (3,), (3,)), ("e", (3,), (1,)),
                   ("f", (2,), (2,))))
        for cost, expected in ((0, 0), (1, 0), (2, 1), (3, None), (4, None)):
            self.assertIs(count_of_cost(net, cost, costs=(1, 1, 1, 0, 1, 1)), expected, cost)
        for cost, expected in ((0, 0), (2, 1), (3, 1), (100, 1), (101, None)):
            self.assertIs(count_of_cost(net, cost, costs=(1, 1, 100, 0, 0, 1)), expected, cost)

    def test_great_costs(self):
        self.assertTrue(same([count_of_cost(P, cost, costs=(10 ** 9, 1000, 0)) for cost in (0, 999, 1000)], [0, 0, 1]))
        self.assertTrue(same(count_of_cost(C, 1000, costs=(10 ** 9, 500, 500)), 1))
        self.assertTrue(same(count_of_cost(C, 1000, costs=(1000, 0, 0)), 1))
        self.assertTrue(same(count_of_cost(choices(40), 0, costs=(0,) * 39 + (10 ** 9,)), 39))

    def test_many_cases(self):
        self.assertTrue(same(count_of_cost(ladder(20), 20), 2 ** 20))
        self.assertTrue(same(count_of_cost(TWINS, 1000, costs=(0, 0, 0, 0, 1)), 4))
        two = (3, (("a", (0,), (2,)), ("b", (2,), (2,)), ("c", (2,), (2,)), ("d", (2,), (1,))))
        self.assertTrue(same(in_time(SECONDS, lambda: count_of_cost(two, 1000, costs=(0, 1, 1, 0))), 2 ** 1000))
        # The numbers of Fibonacci.
        one, other = 1, 1
        for _ in range(999):
            one, other = other, one + other
        self.assertTrue(same(count_of_cost(two, 1000, costs=(0, 1, 2, 0)), other))

    def test_many_markings(self):
        for workflow in (EXACTLY_256, LOOP_OF_101, around(branches((2,) * 6, 2))):
            for cost in (16, 1000):
                found = in_time(SECONDS, lambda: count_of_cost(workflow, cost))
                self.assertIs(type(found), int)
            self.assertIsNone(in_time(SECONDS, lambda: free_loop(workflow, 1000)))
        costs = tuple(Random(115).choice((0, 0, 1)) for _ in LOOP_OF_101[1])
        found = in_time(SECONDS, lambda: free_loop(LOOP_OF_101, 1000, costs=(0,) * (len(LOOP_OF_101[1]) - 1) + (1000,)))
        self.assertIs(is_free_loop(LOOP_OF_101, 1000, found, costs=(0,) * (len(LOOP_OF_101[1]) - 1) + (1000,)), True)
        self.assertEqual(in_time(SECONDS, lambda: outcome(count_of_cost, LOOP_OF_101, 1000, costs=costs))[0], "returned")

    def test_exactly_256_and_257_markings(self):
        self.assertEqual(count_of_cost(EXACTLY_256, 16), 2 ** 5 * 3)
        for call in (count_of_cost, free_loop, chances_of_costs):
            self.assertEqual(outcome(call, EXACTLY_256, 5)[0], "returned")
            self.assertTrue(same(outcome(call, EXACTLY_257, 5), ("raised", "TooMany", {"limit": 256})))
            self.assertTrue(same(outcome(call, EXACTLY_257, 1001), no_number(1001)))
            self.assertTrue(same(outcome(call, EXACTLY_257, 5, costs=0), ("raised", "InvalidCosts", {})))
        self.assertIs(is_free_loop(EXACTLY_257, 5, None), False)

    def test_the_ends_of_the_range(self):
        for call in (count_of_cost, free_loop, chances_of_costs, lambda sound, cost: is_free_loop(sound, cost, None)):
            for cost in (0, 1, 999, 1000):
                self.assertEqual(outcome(call, C, cost)[0], "returned")
            for cost in (-1, 1001, True, False, None, "5", (5,), [5], {}, 10 ** 39, -10 ** 39, 0.5, {"a": [1]}):
                self.assertTrue(same(outcome(call, C, cost), no_number(cost)), cost)


class FreeLoop(unittest.TestCase):

    def agree(self, workflow, costs, cost, value):
        before = copy_of(value)
        expected = plain_readings.is_free(workflow, costs, cost, value)
        self.assertIs(is_free_loop(workflow, cost, value, costs=costs), expected, (workflow, cost, value))
        self.assertTrue(same(value, before))
        return expected

    def test_any_free_loop(self):
        costs = (1, 0, 0, 2, 0, 0)
        for before, loop, after, right in (
            (("a",), ("b", "c"), ("b", "d", "f"), True), (("a", "b"), ("c", "b"), ("d", "f"), True),
            (("a",), ("b", "c", "b", "c"), ("b", "d", "f"), True), (("a", "b", "d"), ("e",), ("f",), True),
            (("a", "b", "d", "e"), ("e", "e"), ("e", "f"), True), (("a", "b", "c"), ("b", "c"), ("b", "d", "e", "f"), True),
            (("a",), ("b",), ("c", "b", "d", "f"), False), (("a",), (), ("b", "d", "f"), False),
            (("a",), ("b", "c"), ("d", "f"), False), (("a", "b"), ("d",), ("f",), False), ((), ("a",), ("b", "d", "f"), False),
            (("a",), ("b", "c"), ("b", "d"), False), (("a", "b", "d", "f"), (), (), False), ((), (), ("a", "b", "d", "f"), False),
        ):
            self.assertIs(self.agree(TURNS, costs, 3, (before, loop, after)), right, (before, loop, after))
            self.assertIs(self.agree(TURNS, costs, 2, (before, loop, after)), False)
            self.assertIs(self.agree(TURNS, (1, 0, 1, 2, 1, 0), 3, (before, loop, after)), False)

    def test_doubled_and_begun_later(self):
        chance = Random(116)
        many = 0
        for workflow in some(SOUND, 80, 117) + [TURNS, LOOPS, D]:
            costs = costs_for(chance, workflow, (0, 0, 0, 1))
            for cost in range(4):
                found = free_loop(workflow, cost, costs=costs)
                if found is not None:
                    many += 1
                    before, loop, after = found
                    for times in (2, 3, 50):
                        self.assertIs(self.agree(workflow, costs, cost, (before, loop * times, after)), True)
                    self.assertIs(self.agree(workflow, costs, cost, (before + loop, loop, after)), True)
                    self.assertIs(self.agree(workflow, costs, cost, (before, loop, loop + after)), True)
                    self.assertIs(self.agree(workflow, costs, cost, (before + loop[:1], loop[1:] + loop[:1], loop[1:] + after)), True)
                    for value in (
                        (before, (), after), (before, loop[:-1], after), (before + loop[:1], loop, after),
                        (before, loop, ()), (list(before), loop, after), (before, list(loop), after), (before, loop),
                        (before, loop, list(after)), [before, loop, after], found + (), (before + loop, (), after),
                    ):
                        self.agree(workflow, costs, cost, value)
                    self.assertIs(is_free_loop(workflow, cost + 1, found, costs=costs), False)
        self.assertGreater(many, 30)

    def test_other_values(self):
        costs = (0, 1, 1)
        right = (("begin",), ("again",), ("stop",))
        for value in ODD + (
            ("unbounded",) + right, right + ((),), right[:2], list(right), {0: right}, (("begin",), ("again",), None),
            (None, ("again",), ("stop",)), (("begin",), "again", ("stop",)), (("begin",), (None,), ("stop",)),
            (("begin",), (("again",),), ("stop",)), (("begin",), ("again",), ("stop", "stop")), "x" * 100000,
            (("begin",), ("again", True), ("stop",)), ((), (), ()), ("begin", "again", "stop"), ([], [], []),
        ):
            self.assertIs(self.agree(C, costs, 2, value), False, value)
        self.assertIs(self.agree(C, costs, 2, right), True)
        self.assertIs(is_free_loop(C, 2, right), False)
        self.assertIs(is_free_loop(C, 3, right), False)

    def test_wrong_costs(self):
        for value in ODD + ((1, 1), [1, 1, 1], (1, 1, -1), (1, 1, True), (1, 1, 10 ** 9 + 1), (1, None, 1)):
            if value is None or same(value, (1, 0, 0)):
                continue
            for call in (
                lambda: count_of_cost(C, 3, costs=value), lambda: free_loop(C, 3, costs=value),
                lambda: is_free_loop(C, 3, 0, costs=value), lambda: chances_of_costs(C, 3, costs=value),
            ):
                self.assertEqual(outcome(call), ("raised", "InvalidCosts", {}), value)
        for call in (count_of_cost, free_loop, chances_of_costs):
            self.assertTrue(same(outcome(call, C, -1, costs=0), no_number(-1)))


class ChancesOfCosts(unittest.TestCase):

    def test_all_cases(self):
        chance = Random(118)
        for workflow in SOUND:
            longest = case_lengths(workflow)[1]
            if longest is None:
                continue
            chances, costs = some_chances(chance, workflow), costs_for(chance, workflow)
            numbers = plain_readings.chances_of(workflow, chances)
            limit = 3 * longest
            expected = [Fraction(0)] * (limit + 1)
            for run in complete_cases(workflow, longest=longest):
                cost = cost_of(workflow, costs, run)
                if cost <= limit:
                    expected[cost] += plain_readings.product(plain_readings.of_run(workflow, numbers, run))
            found = chances_of_costs(workflow, limit, chances=chances, costs=costs)
            self.assertTrue(same(found, tuple(map(plain_readings.as_pair, expected))), workflow)

    def test_equations_for_pairs_of_markings_and_costs(self):
        chance = Random(119)
        for workflow in some(SOUND, 90, 120) + [C, F, TURNS, LOOPS, SPLIT, TWINS]:
            chances, costs = some_chances(chance, workflow), costs_for(chance, workflow)
            numbers = plain_readings.chances_of(workflow, chances)
            expected = plain_readings.chances_by_cost(workflow, some_plan(chance, workflow), numbers, costs, 5)
            found = chances_of_costs(workflow, 5, chances=chances, costs=costs)
            self.assertTrue(same(found, tuple(map(plain_readings.as_pair, expected))), (workflow, chances, costs))

    def test_some(self):
        self.assertTrue(same(chances_of_costs(F, 9), ((0, 1),) * 5 + ((1, 2), (0, 1), (1, 4), (0, 1), (1, 8))))
        self.assertTrue(same(chances_of_costs(C, 0, costs=(0, 0, 0)), ((1, 1),)))
        self.assertTrue(same(chances_of_costs(C, 0), ((0, 1),)))
        self.assertTrue(same(chances_of_costs(P, 3, costs=(3, 10 ** 9, 0)), ((0, 1), (0, 1), (0, 1), (1, 2))))
        self.assertTrue(same(chances_of_costs(P, 2, costs=(10 ** 9,) * 3), ((0, 1),) * 3))
        # The free loop of b and c is left with chance 1, and e is done k times with the chance 1/2 ** (k + 1).
        self.assertTrue(same(chances_of_costs(TURNS, 4, costs=(1, 0, 0, 0, 1, 1)),
                             ((0, 1), (0, 1), (1, 2), (1, 4), (1, 8))))
        self.assertTrue(same(chances_of_costs(TURNS, 4, costs=(1, 0, 0, 0, 1, 0)),
                             ((0, 1), (1, 2), (1, 4), (1, 8), (1, 16))))

    def test_the_greatest_limit(self):
        found = in_time(SECONDS, lambda: chances_of_costs(C, 1000))
        self.assertTrue(same(found, ((0, 1), (0, 1)) + tuple((1, 2 ** k) for k in range(1, 1000))))
        chances = chances_of(C, again=2, stop=3)
        found = in_time(SECONDS, lambda: chances_of_costs(C, 1000, chances=chances))
        self.assertTrue(same(found[1000], (3 * 2 ** 998, 5 ** 999)))
        rare = chances_of(F, back=999999)
        found = in_time(SECONDS, lambda: chances_of_costs(F, 1000, chances=rare))
        self.assertTrue(same(found[999], (999999 ** 497, 10 ** (6 * 498))))
        self.assertTrue(same(found[1000], (0, 1)))

    def test_many_markings(self):
        for workflow, limit in ((LOOP_OF_100, 1000), (EXACTLY_256, 1000), (rings((4, 3, 5)), 1000)):
            for costs in (None, costs_for(Random(121), workflow)):
                found = in_time(SECONDS, lambda: chances_of_costs(workflow, limit, costs=costs))
                self.assertEqual(len(found), limit + 1)
                total = sum(Fraction(*part) for part in found[:200])
                self.assertLessEqual(total, 1)
        total = sum(Fraction(*part) for part in chances_of_costs(EXACTLY_256, 16))
        self.assertEqual(total, 1)

    def test_the_mean(self):
        chance = Random(122)
        for workflow in some(SOUND, 40, 123):
            if case_lengths(workflow)[1] is not None:
                costs = costs_for(chance, workflow, (0, 1, 2, 7))
                found = chances_of_costs(workflow, 200, costs=costs)
                self.assertEqual(sum(Fraction(*part) for part in found), 1)
                mean = sum(Fraction(*part) * cost for cost, part in enumerate(found))
                self.assertEqual(Fraction(*expected_cost(workflow, costs=costs)), mean)

    def test_a_limit_that_is_smaller(self):
        chance = Random(124)
        for workflow in some(SOUND, 40, 125) + [TURNS, LOOPS]:
            given = {"chances": some_chances(chance, workflow), "costs": costs_for(chance, workflow)}
            longest = chances_of_costs(workflow, 30, **given)
            for limit in (0, 1, 7, 29):
                self.assertTrue(same(chances_of_costs(workflow, limit, **given), longest[:limit + 1]))

    def test_exactly_100_and_101_on_loops(self):
        self.assertEqual(outcome(chances_of_costs, LOOP_OF_100, 20)[0], "returned")
        self.assertTrue(same(outcome(chances_of_costs, LOOP_OF_101, 20), ("raised", "TooMany", {"limit": 100})))
        # The markings on loops do not matter for numbers.
        self.assertEqual(count_of_cost(LOOP_OF_101, 19), 32)
        many = around(branches((3,) * 5, 1))
        self.assertIsNone(plain_algebra.met(many, 256))
        self.assertTrue(same(outcome(chances_of_costs, many, 20), ("raised", "TooMany", {"limit": 256})))

    def test_wrong_chances(self):
        for value in wrong_chances(((1, 2), (1, 2), (1, 1))) + ODD:
            if value is not None:
                for costs in (None, 0):
                    self.assertEqual(
                        outcome(chances_of_costs, P, 3, chances=value, costs=costs), ("raised", "InvalidChances", {}), value
                    )
                self.assertTrue(same(outcome(chances_of_costs, P, 1001, chances=value), no_number(1001)))
        for workflow in (EXACTLY_257, LOOP_OF_101):
            self.assertEqual(outcome(chances_of_costs, workflow, 3, chances=()), ("raised", "InvalidChances", {}))


if __name__ == "__main__":
    unittest.main()
