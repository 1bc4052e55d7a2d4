"""Least and greatest papers."""

import unittest
from random import Random

from caseflow.cases.cases import runs_of_case
from caseflow.readings.extremes import greatest_paper, is_greatest_paper, is_least_paper, least_paper
from tests import plain, plain_readings
from tests.built import EXACTLY_256, EXACTLY_257, LOOP_OF_101, around, branches, ladder, rings
from tests.pools import LATE, LOOPS, SOUND, SPLIT, TWINS, some
from tests.samples import B, C, D, F, ODD, P, chain, choices, copy_of, in_time, outcome, same
from tests.test_orders import orders, some_plan

SECONDS = 20
TOO_MANY = ("raised", "TooMany", {"limit": 256})


def costs_for(chance, workflow):
    """Returns costs, many of them 0."""
    most = chance.choice((0, 1, 3, 10 ** 9))
    return tuple(chance.choice((0, 0, chance.randint(0, most))) for _ in workflow[1])


def bound_table(workflow, costs, plan, kind):
    """Returns the table of a plan with the least, or the greatest, costs to the end; loops cost nothing if greatest."""
    found = plain_readings.moves(workflow, plan)
    choose = min if kind == "least" else max
    numbers = {plain.last(workflow): 0}
    for _ in range(len(plan) + 1):
        for key in found:
            known = [costs[at] + numbers[after] for at, after in found[key] if after in numbers]
            if known:
                numbers[key] = choose(known)
    return {key: (plan[key], numbers[key]) for key in plan}


class Least(unittest.TestCase):

    def test_small_workflows(self):
        chance = Random(101)
        for workflow in SOUND:
            costs = costs_for(chance, workflow)
            paper = least_paper(workflow, costs=costs)
            self.assertIs(plain_readings.is_least(workflow, paper, costs), True, (workflow, costs, paper))
            self.assertIs(is_least_paper(workflow, paper, costs=costs), True)
            self.assertTrue(same(paper[0], plain_readings.least_cost(workflow, costs)), (workflow, costs))
            self.assertTrue(same(list(paper[2]), sorted(paper[2])))
            self.assertTrue(same(paper, least_paper(copy_of(workflow), costs=copy_of(costs))))

    def test_costs_of_one(self):
        for workflow in some(SOUND, 60, 102) + [F, C, EXACTLY_256]:
            ones = (1,) * len(workflow[1])
            paper = least_paper(workflow)
            self.assertTrue(same(paper, least_paper(workflow, costs=ones)))
            self.assertTrue(same(paper, least_paper(workflow, costs=None)))
            for costs in (None, ones):
                self.assertIs(is_least_paper(workflow, paper, costs=costs), True)
                self.assertIs(is_greatest_paper(workflow, greatest_paper(workflow), costs=costs), True)

    def test_some(self):
        self.assertEqual(least_paper(F)[:2], (5, ("fork", "check", "pay", "pass", "join")))
        self.assertEqual(least_paper(choices(40), costs=(10 ** 9,) * 39 + (999999999,))[:2], (999999999, ("bn",)))
        self.assertEqual(least_paper(chain(29), costs=(10 ** 9,) * 29)[0], 29 * 10 ** 9)
        self.assertEqual(least_paper(ladder(20), costs=(3, 2) * 20)[0], 50)
        # A loop that costs nothing is not gone round again and again.
        self.assertEqual(least_paper(TWINS, costs=(0,) * 5)[0], 0)
        for workflow in (C, F, D, LOOPS, SPLIT, TWINS):
            cost, run, _ = least_paper(workflow, costs=(0,) * len(workflow[1]))
            self.assertEqual([cost, plain.follow(workflow, run, plain.first(workflow))[-1]], [0, plain.last(workflow)])

    def test_other_plans(self):
        chance = Random(103)
        for workflow in some(SOUND, 80, 104) + [D, LOOPS, LATE]:
            costs = costs_for(chance, workflow)
            cost, run, _ = least_paper(workflow, costs=costs)
            for plan in (some_plan(chance, workflow), {**some_plan(chance, workflow), **some_plan(chance, workflow)}):
                table = bound_table(workflow, costs, plan, "least")
                self.assertEqual(table[plain.first(workflow)][1], cost)
                self.assertIs(is_least_paper(workflow, (cost, run, table), costs=costs), True)
            other = chance.choice(list(runs_of_case(workflow, run))[:9])
            self.assertIs(is_least_paper(workflow, (cost, other, table), costs=costs), True)

    def test_numbers_that_are_less(self):
        # Any lower numbers will do, if only that of the first marking is the cost.
        paper = least_paper(P, costs=(4, 7, 2))
        for first, second, right in (
            (6, 2, True), (6, 1, False), (6, 3, False), (5, 2, False), (7, 2, False), (6, -10 ** 50, False),
        ):
            value = (6, paper[1], {(1, 0, 0): (0, first), (0, 0, 1): (1, second)})
            self.assertIs(is_least_paper(P, value, costs=(4, 7, 2)), right, (first, second))
            self.assertIs(plain_readings.is_least(P, value, (4, 7, 2)), right)
        cost, run, table = least_paper(C, costs=(5, 1, 1))
        self.assertIs(is_least_paper(C, (2, run, table), costs=(5, 1, 1)), True)
        net = (4, (("a", (0,), (2,)), ("b", (0,), (3,)), ("c", (2,), (1,)), ("d", (3,), (1,))))
        run = ("a", "c")
        table = {(1, 0, 0, 0): (0, 3), (0, 0, 1, 0): (1, 2), (0, 0, 0, 1): (2, 9)}
        for number in (9, 2, 3, 10, 1, -7):
            table[(0, 0, 0, 1)] = (2, number)
            self.assertIs(is_least_paper(net, (3, run, table), costs=(1, 1, 2, 9)), 2 <= number <= 9, number)

    def test_a_run_that_costs_more(self):
        cost, run, table = least_paper(C)
        longer = ("begin", "again", "stop")
        for value in ((3, longer, table), (2, longer, table), (3, run, table)):
            self.assertIs(is_least_paper(C, value), False)
        self.assertIs(is_least_paper(C, (2, longer, table), costs=(0, 1, 1)), True)
        self.assertEqual(cost, 2)

    def test_exactly_256_and_257_markings(self):
        self.assertEqual(in_time(SECONDS, lambda: least_paper(EXACTLY_256))[0], 16)
        self.assertTrue(same(outcome(least_paper, EXACTLY_257), TOO_MANY))
        self.assertTrue(same(outcome(greatest_paper, EXACTLY_257), TOO_MANY))
        self.assertTrue(same(outcome(least_paper, EXACTLY_257, costs=0), ("raised", "InvalidCosts", {})))
        self.assertTrue(same(outcome(greatest_paper, EXACTLY_257, costs=0), ("raised", "InvalidCosts", {})))
        # The markings on loops do not matter here.
        self.assertEqual(in_time(SECONDS, lambda: least_paper(LOOP_OF_101))[0], 19)
        self.assertEqual(in_time(SECONDS, lambda: greatest_paper(LOOP_OF_101))[0], "unbounded")

    def test_nothing_is_too_many_for_the_tests(self):
        ones = (1,) * len(EXACTLY_257[1])
        plan = plain_readings.met(EXACTLY_257, orders(EXACTLY_257, 0, 0)[1])
        table = bound_table(EXACTLY_257, ones, plan, "least")
        run = ("baa", "bab", "bac", "fork") + tuple(
            kind + "a" + letter + "aa" for letter in "abcdef" for kind in "wx"
        ) + ("join",)
        self.assertIs(is_least_paper(EXACTLY_257, (17, run, table)), True)
        self.assertIs(is_greatest_paper(EXACTLY_257, ("greatest", 17, run, table)), True)
        self.assertIs(is_least_paper(EXACTLY_257, None), False)


class Greatest(unittest.TestCase):

    def test_small_workflows(self):
        chance = Random(105)
        kinds = {}
        for workflow in SOUND:
            for costs in (costs_for(chance, workflow), self.free_loops(workflow, chance)):
                paper = greatest_paper(workflow, costs=costs)
                kinds[paper[0]] = kinds.get(paper[0], 0) + 1
                self.assertIs(plain_readings.is_greatest(workflow, paper, costs), True, (workflow, costs, paper))
                self.assertIs(is_greatest_paper(workflow, paper, costs=costs), True)
                expected = plain_readings.greatest_cost(workflow, costs)
                if expected is None:
                    self.assertEqual(paper[0], "unbounded")
                else:
                    self.assertTrue(same(paper[:2], ("greatest", expected)), (workflow, costs))
                    self.assertTrue(same(list(paper[3]), sorted(paper[3])))
                self.assertTrue(same(paper, greatest_paper(workflow, costs=costs)))
        self.assertGreater(min(kinds["greatest"], kinds["unbounded"]), 30)

    def free_loops(self, workflow, chance):
        """Returns costs of 0 for all steps on loops, others beside them."""
        found = plain_readings.graph(workflow)
        reached = plain_readings.leads(found)
        looping = {at for key in found for at, after in found[key] if after == key or key in reached[after]}
        return tuple(0 if at in looping else chance.randint(0, 9) for at in range(len(workflow[1])))

    def test_some(self):
        self.assertEqual(greatest_paper(P, costs=(4, 7, 2))[:3], ("greatest", 9, ("cash", "ship")))
        self.assertEqual(greatest_paper(choices(40), costs=tuple(range(40)))[:3], ("greatest", 39, ("bn",)))
        self.assertEqual(greatest_paper(ladder(20), costs=(10 ** 9,) * 40)[1], 20 * 10 ** 9)
        self.assertEqual(greatest_paper(F, costs=(0, 0, 9, 8, 7, 6))[:2], ("greatest", 30))
        for costs in ((1, 0, 9, 8, 7, 6), (0, 1, 9, 8, 7, 6), None):
            self.assertEqual(greatest_paper(F, costs=costs)[0], "unbounded")
        self.assertEqual(greatest_paper(rings((3, 2)), costs=(9, 9, 0, 0, 0, 0, 0, 2, 3))[:2], ("greatest", 23))
        self.assertEqual(greatest_paper(around(branches((2, 2), 1)), costs=(0,) * 14)[:2], ("greatest", 0))

    def test_exits_of_a_free_loop(self):
        # From a loop without costs, the way out that costs most is far from the way in.
        net = (6, (("in", (0,), (2,)), ("ra", (2,), (3,)), ("rb", (3,), (4,)), ("rc", (4,), (2,)), ("xa", (2,), (1,)),
                   ("xb", (3,), (1,)), ("xc", (4,), (5,)), ("xd", (5,), (1,))))
        for costs, run in (
            ((1, 0, 0, 0, 5, 9, 4, 4), ("in", "ra", "xb")), ((1, 0, 0, 0, 5, 9, 9, 9), ("in", "ra", "rb", "xc", "xd")),
            ((1, 0, 0, 0, 5, 4, 0, 0), ("in", "xa")),
        ):
            paper = greatest_paper(net, costs=costs)
            self.assertEqual(paper[2], run)
            self.assertIs(plain_readings.is_greatest(net, paper, costs), True)

    def test_other_plans(self):
        chance = Random(106)
        for workflow in some(SOUND, 80, 107) + [D, LOOPS, LATE]:
            costs = self.free_loops(workflow, chance)
            _, cost, run, _ = greatest_paper(workflow, costs=costs)
            plan = {**some_plan(chance, workflow), **some_plan(chance, workflow)}
            # Above all numbers of the plan, whatever loops there are.
            numbers = {plain.last(workflow): 0, **{key: 0 for key in plan}}
            found = plain_readings.moves(workflow, plan)
            for _ in range(len(plan) + 1):
                for key in found:
                    numbers[key] = max(costs[at] + numbers[after] for at, after in found[key])
            table = {key: (plan[key], numbers[key]) for key in plan}
            value = ("greatest", cost, run, table)
            expected = plain_readings.is_greatest(workflow, value, costs)
            self.assertIs(is_greatest_paper(workflow, value, costs=costs), expected)
            self.assertEqual(expected, numbers[plain.first(workflow)] == cost)

    def test_unbounded_papers(self):
        for before, loop, after, right in (
            (("begin",), ("again",), ("stop",), True), (("begin", "again"), ("again",), ("stop",), True),
            (("begin",), ("again", "again"), ("again", "stop"), True), (("begin",), (), ("stop",), False),
            ((), ("begin",), ("stop",), False), (("begin",), ("again",), (), False), ((), (), ("begin", "stop"), False),
            (("begin",), ("stop",), (), False), (("begin", "stop"), (), (), False), (["begin"], ("again",), ("stop",), False),
            (("begin",), ["again"], ("stop",), False), (("begin",), ("again",), ["stop"], False), ("begin", "again", "stop", False),
            (("begin",), ("nosuch",), ("stop",), False), (("begin",), (None,), ("stop",), False), (None, None, None, False),
            (("begin",), ("again",), ("stop", "stop"), False), (("begin",), ("again",), None, False),
        ):
            value = ("unbounded", before, loop, after)
            self.assertIs(plain_readings.is_greatest(C, value, (1, 1, 1)), right, value)
            self.assertIs(is_greatest_paper(C, value), right, value)
            self.assertIs(is_greatest_paper(C, value, costs=(0, 5, 5)), False)
            self.assertIs(is_greatest_paper(C, value, costs=(1, 0, 0)), right)
        # The steps that are left in the middle lead back, but not to the same marking.
        run = ("fork", "check", "pay")
        self.assertIs(is_greatest_paper(F, ("unbounded", run, ("back", "check"), ("pass", "join"))), True)
        self.assertIs(is_greatest_paper(F, ("unbounded", ("fork",), ("check", "pay", "back"), ("check", "pass", "join"))), False)

    def test_numbers_that_are_greater(self):
        for cost, first, second, right in (
            (9, 9, 2, True), (9, 9, 3, False), (9, 9, 1, False), (9, 10, 2, False), (10, 10, 2, False), (8, 8, 2, False),
        ):
            value = ("greatest", cost, ("cash", "ship"), {(1, 0, 0): (0, first), (0, 0, 1): (1, second)})
            self.assertIs(is_greatest_paper(P, value, costs=(4, 7, 2)), right)
        value = ("greatest", 2, ("begin", "stop"), {(1, 0, 0): (0, 2), (0, 0, 1): (1, 1)})
        self.assertIs(is_greatest_paper(C, value, costs=(0, 1, 1)), True)
        self.assertIs(is_greatest_paper(C, value), False)
        self.assertIs(is_greatest_paper(C, ("unbounded",) + value[1:], costs=(0, 1, 1)), False)


class Papers(unittest.TestCase):

    def test_one_part_otherwise(self):
        chance = Random(108)
        right = 0
        for workflow in some(SOUND, 60, 109):
            costs = costs_for(chance, workflow)
            cost, run, table = least_paper(workflow, costs=costs)
            greatest = greatest_paper(workflow, costs=costs)
            for key in list(table)[:4]:
                cluster, number = table[key]
                for entry in (
                    (cluster, number + 1), (cluster, number - 1), (cluster + 1, number), (cluster, None), (cluster,),
                    [cluster, number], number, (cluster, number, 0), (bool(cluster), number), (cluster, bool(number)),
                    (None, number), (cluster, str(number)), (cluster, (number, 1)), (-1, number), (cluster, 10 ** 50),
                ):
                    right += self.agree(workflow, costs, (cost, run, {**table, key: entry}), greatest, key, entry)
                less = {other: table[other] for other in table if other != key}
                self.assertIs(is_least_paper(workflow, (cost, run, less), costs=costs), False)
            for other in (cost + 1, cost - 1, bool(cost), None, str(cost), (cost,)):
                if not same(other, cost):
                    self.assertIs(is_least_paper(workflow, (other, run, table), costs=costs), False)
            for other in (run[:-1], run + run[:1], list(run), run[::-1] if len(run) > 1 else None, None, run[0]):
                self.assertIs(is_least_paper(workflow, (cost, other, table), costs=costs), False)
        self.assertGreater(right, 10)

    def agree(self, workflow, costs, value, greatest, key, entry):
        before = copy_of(value)
        expected = plain_readings.is_least(workflow, value, costs)
        self.assertIs(is_least_paper(workflow, value, costs=costs), expected, (workflow, costs, value))
        self.assertTrue(same(value, before))
        if greatest[0] == "greatest":
            other = greatest[:3] + ({**greatest[3], key: entry},)
            told = plain_readings.is_greatest(workflow, other, costs)
            self.assertIs(is_greatest_paper(workflow, other, costs=costs), told)
            expected += told
        return expected

    def test_other_values(self):
        _, run, table = least_paper(P)
        last = {**table, (0, 1, 0): (0, 0)}
        for value in ODD + (
            (2, run), (2, run, table, ()), [2, run, table], (2, run, None), (2, run, list(table)), (2, run, {}),
            (2, run, last), (2, run, {**table, None: (0, 1)}), (2, run, {**table, (0, 0): (0, 1)}), (True, run, table),
            (2, run, {(True, 0, 0): (0, 2), (0, 0, 1): (1, 1)}), (2, run, {(1, 0, 0): (False, 2), (0, 0, 1): (1, 1)}),
            (2, run, {(1, 0, 0): (0, 2), (0, 0, 1): (True, 1)}), (2, run, {(1, 0, 0): (0, 2), (0, 0, 1): (1, True)}),
            (2, None, table), (None, run, table), ("2", run, table), ({}, {}, {}), ((), (), ()), "x" * 100000,
            ("greatest", 2, run, None), ("greatest", 2, run, last), ("greatest", 2, None, table), ("least", 2, run, table),
            ("greatest", True, run, table), ("greatest", 2, run), ("greatest", 2, run, table, 0), ("unbounded", (), ()),
            ["greatest", 2, run, table], (None, 2, run, table), ({}, 2, run, table), ("greatest", 2, run[:1], table),
            ("greatest", 2, run, {(1, 0, 0): (0, 2), (0, 0, 1): (1, True)}), ("unbounded", run, (), ()),
        ):
            self.assertIs(is_least_paper(P, value), False, value)
            self.assertIs(is_greatest_paper(P, value), False, value)
        self.assertIs(is_least_paper(P, (2, run, table)), True)
        self.assertIs(is_greatest_paper(P, ("greatest", 2, run, table)), True)

    def test_keys_that_no_run_meets(self):
        marking, after = (0, 0, 1, 0, 0, 0, 0, 1), (0, 0, 0, 0, 1, 0, 0, 1)
        cost, run, table = least_paper(D)
        number = table[after][1]
        for more, right in ((number + 1, True), (number, True), (-5, True), (number + 2, False)):
            self.assertIs(is_least_paper(D, (cost, run, {**table, marking: (1, more)})), right)
        free = (0,) * 8
        kind, cost, run, table = greatest_paper(D, costs=free)
        for more, right in ((0, True), (3, True), (-1, False)):
            self.assertIs(is_greatest_paper(D, (kind, cost, run, {**table, marking: (1, more)}), costs=free), right)

    def test_wrong_costs(self):
        for value in ODD + ((1, 1), [1, 1, 1], (1, 1, -1), (1, 1, True), (1, 1, 10 ** 9 + 1), (1, None, 1), "111"):
            if value is None or same(value, (1, 0, 0)):
                continue
            for call in (
                lambda: least_paper(P, costs=value), lambda: greatest_paper(P, costs=value),
                lambda: is_least_paper(P, None, costs=value), lambda: is_greatest_paper(P, None, costs=value),
            ):
                self.assertEqual(outcome(call), ("raised", "InvalidCosts", {}), value)
        self.assertEqual(least_paper(P, costs=(10 ** 9, 10 ** 9, 0))[0], 10 ** 9)

    def test_changed_tables_change_nothing(self):
        least_paper(C)[2].clear()
        greatest_paper(P)[3].clear()
        self.assertTrue(same(least_paper(C), (2, ("begin", "stop"), {(0, 0, 1): (1, 1), (1, 0, 0): (0, 2)})))
        self.assertEqual(len(greatest_paper(P)[3]), 2)

    def test_not_sound(self):
        for call in (least_paper, greatest_paper, lambda sound: is_least_paper(sound, 0, costs=0)):
            self.assertEqual(outcome(call, B)[1], "NotSound")


if __name__ == "__main__":
    unittest.main()
