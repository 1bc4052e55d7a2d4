"""Cases: exchanges of neighbours, normal runs, differences, and the runs of a case."""

import unittest
from itertools import islice
from math import comb
from random import Random

from caseflow.cases.cases import (
    are_exchanges, count_orders, difference, exchanges, is_difference, normal_run, runs_of_case, same_case,
)
from caseflow.nets.runs import marking_after
from tests import plain, plain_cases
from tests.built import branches
from tests.pools import FEW_RUNS, LOOPS, some
from tests.randoms import random_sound
from tests.samples import B, C, F, L, ODD, P, copy_of, in_time, label, outcome, same

SECONDS = 20
# Two loops side by side that never end by themselves.
SIDES = (6, (("fork", (0,), (2, 3)), ("la", (2,), (2,)), ("lb", (2,), (4,)), ("ra", (3,), (3,)), ("rb", (3,), (5,)),
             ("stop", (4, 5), (1,))))


def runs(workflow, longest, most):
    """Returns runs of up to so many steps, not too many of each length."""
    return [run for level in plain_cases.runs(workflow, longest) for run in some(level, most, len(level))]


def sides(left, right):
    """Returns a run of SIDES with so many steps of both loops."""
    return ("fork",) + ("la",) * left + ("ra",) * right


def moved(chance, workflow, run, many):
    """Returns a run to which so many exchanges of neighbours lead."""
    for _ in range(many):
        others = plain_cases.exchanged(workflow, run)
        run = chance.choice(others) if others else run
    return run


class AllRuns(unittest.TestCase):
    """What is found by exchanging neighbours."""

    def test_small_workflows(self):
        most = 0
        for workflow in FEW_RUNS:
            for run in runs(workflow, 6, 8):
                case = plain_cases.case(workflow, run)
                most = max(most, len(case))
                self.shows(workflow, run, case)
        self.assertGreater(most, 9)

    def shows(self, workflow, run, case):
        self.assertTrue(same(normal_run(workflow, run), case[0]), (workflow, run))
        self.assertTrue(same(list(runs_of_case(workflow, run)), case), (workflow, run))
        self.assertTrue(same(count_orders(workflow, run), len(case)), (workflow, run))

    def test_two_runs(self):
        chance = Random(31)
        told = []
        for workflow in some(FEW_RUNS, 70, 30):
            found = runs(workflow, 6, 4)
            for one in found:
                other = chance.choice((chance.choice(found), chance.choice(plain_cases.case(workflow, one))))
                told.append(self.agree(workflow, one, other))
        self.assertGreater(told.count(True), 200)
        self.assertGreater(told.count(False), 200)

    def agree(self, workflow, one, other):
        """Fails unless all that is told of two runs is right. Returns whether they belong to the same case."""
        expected = other in plain_cases.case(workflow, one)
        self.assertIs(same_case(workflow, one, other), expected, (workflow, one, other))
        positions = exchanges(workflow, one, other)
        found = difference(workflow, one, other)
        differences = plain_cases.differences(workflow, one, other)
        if expected:
            self.assertIs(plain_cases.are_exchanges(workflow, one, other, positions), True, (workflow, one, other))
            self.assertIs(are_exchanges(workflow, one, other, positions), True)
            self.assertIsNone(found)
        else:
            self.assertIsNone(positions)
            self.assertIn(found, differences, (workflow, one, other))
            self.assertIs(type(found), tuple)
        names = [step[0] for step in workflow[1]]
        for pair in some([(a, b) for a in names for b in names], 12, len(one)) + differences[:3]:
            self.assertIs(is_difference(workflow, one, other, pair), pair in differences, (workflow, one, other, pair))
        self.assertEqual(differences == [], expected)
        return expected

    def test_larger_workflows(self):
        chance = Random(32)
        for workflow in random_sound(25, 4) + [branches((2, 3, 2), 1)]:
            run = self.some_run(chance, workflow, 25)
            other = moved(chance, workflow, run, 60)
            self.assertIs(same_case(workflow, run, other), True)
            self.assertIs(plain_cases.are_exchanges(workflow, run, other, exchanges(workflow, run, other)), True)
            self.assertIsNone(difference(workflow, run, other))
            normal = normal_run(workflow, run)
            self.assertTrue(same(normal, normal_run(workflow, other)))
            self.assertEqual(next(runs_of_case(workflow, other)), normal)
            found = list(islice(runs_of_case(workflow, run), 200))
            self.assertEqual(found, sorted(set(found), key=lambda other: plain_cases.keys(workflow, other)))
            self.assertTrue(all(same_case(workflow, run, other) for other in found[:20]))
            if len(found) < 200:
                self.assertEqual(count_orders(workflow, run), len(found))
                self.assertIn(other, found)

    def some_run(self, chance, workflow, longest):
        marking, run = plain.first(workflow), ()
        while len(run) < longest and plain.enabled(workflow, marking):
            step = chance.choice(plain.enabled(workflow, marking))
            marking, run = plain.done(marking, step), run + (step[0],)
        return run


class NormalRun(unittest.TestCase):

    def test_some(self):
        self.assertEqual(normal_run(F, ()), ())
        self.assertEqual(normal_run(F, ("fork", "pay", "check", "back", "check", "pass")),
                         ("fork", "check", "pay", "back", "check", "pass"))
        self.assertEqual(normal_run(P, ("cash", "ship")), ("cash", "ship"))

    def test_the_number_of_the_cluster_comes_before_the_name(self):
        # The cluster of "zz" has the number 1, that of "aa" the number 2.
        net = (6, (("aa", (3,), (5,)), ("fork", (0,), (2, 3)), ("join", (4, 5), (1,)), ("zz", (2,), (4,))))
        self.assertEqual(normal_run(net, ("fork", "aa", "zz", "join")), ("fork", "zz", "aa", "join"))

    def test_steps_that_can_be_repeated(self):
        self.assertEqual(normal_run(SIDES, ("fork", "ra", "la", "ra", "ra", "la", "lb")),
                         ("fork", "la", "la", "lb", "ra", "ra", "ra"))
        # "e" and "b" of LOOPS are done again and again, side by side.
        run = ("a", "e", "b", "e", "d", "c", "e", "b")
        self.assertEqual(normal_run(LOOPS, run), plain_cases.case(LOOPS, run)[0])

    def test_long_runs(self):
        run = ("fork", "pay") + ("check", "back") * 549
        normal = in_time(SECONDS, lambda: normal_run(F, run))
        self.assertEqual([len(normal), normal[:5]], [1100, ("fork", "check", "pay", "back", "check")])
        self.assertEqual(normal.count("back"), 549)
        self.assertEqual(normal_run(SIDES, ("fork",) + ("ra", "la") * 5000), sides(5000, 5000))


class Exchanges(unittest.TestCase):

    def test_right_ones(self):
        run, other = ("fork", "pay", "check", "back"), ("fork", "check", "back", "pay")
        for value, right in (
            ((1, 2), True), ((1, 2, 2, 2), True), ((2, 1), False), ((1,), False), ((), False), ((1, 2, 0), False),
            ((1, 1, 1, 2), True), ((1, 2, 3), False), ((1, 2, -1), False), ((-3, -2), False), ((1, 3), False),
        ):
            self.assertIs(are_exchanges(F, run, other, value), right, value)
            self.assertIs(plain_cases.are_exchanges(F, run, other, value), right, value)
        self.assertIs(are_exchanges(F, run, run, ()), True)
        self.assertIs(are_exchanges(F, run, other, (1, 2) * 1), True)
        self.assertTrue(same(exchanges(F, run, run), ()))
        self.assertTrue(same(exchanges(F, (), ()), ()))

    def test_steps_that_depend_on_one_another(self):
        # Equal neighbours cannot be exchanged, although nothing would change.
        self.assertIs(are_exchanges(C, ("begin", "again", "again"), ("begin", "again", "again"), (1,)), False)
        self.assertIs(are_exchanges(C, ("begin", "again", "again"), ("begin", "again", "again"), ()), True)
        # "check" puts a token on the place from which "pass" takes it.
        for run in (("fork", "check", "pass"), ("fork", "check", "back"), ("fork", "check")):
            self.assertIs(are_exchanges(F, run, run, ()), True)
            for at in range(len(run) - 1):
                self.assertIs(are_exchanges(F, run, run, (at, at)), False)

    def test_runs_of_different_cases(self):
        for one, other in (
            (("card",), ("cash",)), (("card",), ()), ((), ("card", "ship")), (("card",), ("card", "ship")),
            (("card", "ship"), ("cash", "ship")),
        ):
            self.assertIsNone(exchanges(P, one, other))
            for value in ((), (0,), (0, 0), (1,)):
                self.assertIs(are_exchanges(P, one, other, value), False)

    def test_all_tuples_of_positions(self):
        for one, other in ((("fork", "pay", "check"), ("fork", "check", "pay")), (("fork",), ("fork",)), ((), ())):
            for value in [()] + [(a,) for a in range(-3, 4)] + [(a, b) for a in range(-3, 4) for b in range(-3, 4)]:
                expected = plain_cases.are_exchanges(F, one, other, value)
                self.assertIs(are_exchanges(F, one, other, value), expected, (one, value))

    def test_booleans_and_other_kinds(self):
        one, other = ("fork", "pay", "check"), ("fork", "check", "pay")
        self.assertIs(are_exchanges(F, one, other, (1,)), True)
        for value in (
            (True,), [1], 1, "1", ("1",), (1.0,), ((1,),), ([1],), None, {}, {1: 1}, (None,), (10 ** 39,), (10 ** 5000,),
            (1, True, 1), "x" * 100000, (1, {}), True,
        ):
            self.assertIs(are_exchanges(F, one, other, value), False, value)
        for value in ODD:
            expected = plain_cases.are_exchanges(F, one, other, value)
            self.assertIs(are_exchanges(F, one, other, value), expected, value)

    def test_long_runs(self):
        one, other = sides(550, 549), ("fork",) + ("ra",) * 549 + ("la",) * 550
        positions = in_time(SECONDS, lambda: exchanges(SIDES, one, other))
        self.assertEqual(len(positions), 549 * 550)
        self.assertIs(in_time(SECONDS, lambda: are_exchanges(SIDES, one, other, positions)), True)
        self.assertIs(are_exchanges(SIDES, one, other, positions[:-1]), False)
        self.assertIs(are_exchanges(SIDES, other, one, positions[::-1]), True)


class Difference(unittest.TestCase):

    def test_right_ones(self):
        one, other = ("fork", "check", "back", "check"), ("fork", "check", "pay")
        expected = plain_cases.differences(F, one, other)
        self.assertEqual(expected, [
            ("back", "back"), ("back", "check"), ("back", "pass"), ("check", "check"),
            ("check", "fork"), ("check", "pass"), ("fork", "pay"), ("join", "pay"), ("pay", "pay"),
        ])
        for pair in expected:
            self.assertIs(is_difference(F, one, other, pair), True)
            self.assertIs(is_difference(F, other, one, pair), True)
        self.assertIn(difference(F, one, other), expected)
        # These do not depend on one another.
        self.assertIs(is_difference(F, one, other, ("check", "pay")), False)

    def test_the_order_of_the_names(self):
        self.assertIs(is_difference(P, ("card",), ("cash",), ("card", "cash")), True)
        self.assertIs(is_difference(P, ("card",), ("cash",), ("cash", "card")), False)
        self.assertIs(is_difference(P, ("card",), ("cash",), ("cash", "cash")), True)
        self.assertIs(is_difference(P, ("card",), ("cash",), ("ship", "ship")), False)
        self.assertIs(is_difference(P, ("card",), ("cash",), ("ship", "card")), False)

    def test_a_step_more(self):
        for one, other in ((("begin",), ("begin", "again")), (("begin", "again"), ("begin",))):
            self.assertTrue(same(difference(C, one, other), ("again", "again")))
        one, other = ("begin",) + ("again",) * 500, ("begin",) + ("again",) * 600 + ("stop",)
        self.assertIs(is_difference(C, one, other, difference(C, one, other)), True)

    def test_the_same_case(self):
        for pair in ((a[0], b[0]) for a in F[1] for b in F[1]):
            self.assertIs(is_difference(F, ("fork", "pay", "check"), ("fork", "check", "pay"), pair), False)

    def test_other_values(self):
        one, other = ("card",), ("cash", "ship")
        for value in ODD + (
            ["card", "cash"], ("card",), ("card", "cash", "ship"), ("card", None), (None, "card"), ("card", ["cash"]),
            (["card"], "cash"), ("nosuch", "ship"), ("card", "nosuch"), "cardcash", ("", ""), ({}, {}), (0, 1),
            {"card": "cash"}, (("card", "cash"),), "x" * 100000, ("card", b"cash"), (True, True),
        ):
            expected = value in plain_cases.differences(P, one, other)
            self.assertIs(is_difference(P, one, other, value), expected, value)

    def test_long_runs(self):
        run = ("fork", "pay") + ("check", "back") * 549
        self.assertTrue(same(difference(F, run, run[:-1]), ("back", "back")))
        self.assertIs(is_difference(F, run, run[:-1], ("back", "pass")), True)
        self.assertIs(is_difference(F, run, run[:-1], ("pay", "pay")), False)


class CountOrders(unittest.TestCase):

    def test_numbers(self):
        for left in range(6):
            for right in range(6):
                self.assertTrue(same(count_orders(SIDES, sides(left, right)), comb(left + right, left)))
        self.assertEqual(count_orders(F, ()), 1)
        self.assertEqual(count_orders(C, ("begin",) + ("again",) * 1000 + ("stop",)), 1)
        self.assertEqual(count_orders(SIDES, sides(40, 60)), comb(100, 40))

    def test_exactly_4096_beginnings(self):
        # Besides () there are (62 + 1) * (64 + 1) = 4095 of them, and (63 + 1) * (63 + 1) = 4096.
        self.assertTrue(same(in_time(SECONDS, lambda: count_orders(SIDES, sides(62, 64))), comb(126, 62)))
        raised = ("raised", "TooMany", {"limit": 4096})
        self.assertTrue(same(in_time(SECONDS, lambda: outcome(count_orders, SIDES, sides(63, 63))), raised))
        self.assertEqual(count_orders(C, ("begin",) + ("again",) * 4094), 1)
        self.assertTrue(same(outcome(count_orders, C, ("begin",) + ("again",) * 4095), raised))

    def test_very_many_beginnings(self):
        many = 14
        steps = [("fork", (0,), tuple(range(2, 2 + many)))]
        steps += [("s" + label(k), (2 + k,), (2 + many + k,)) for k in range(many)]
        steps += [("join", tuple(range(2 + many, 2 + 2 * many)), (1,))]
        net = (2 + 2 * many, tuple(sorted(steps)))
        run = ("fork",) + tuple("s" + label(k) for k in range(many))
        raised = ("raised", "TooMany", {"limit": 4096})
        for more in ((), ("join",)):
            self.assertTrue(same(in_time(SECONDS, lambda: outcome(count_orders, net, run + more)), raised))
        # With 11 steps there are 1 + 2 ** 11 beginnings.
        self.assertEqual(count_orders(net, run[:12]), 39916800)
        self.assertTrue(same(outcome(count_orders, net, run[:13]), raised))


class RunsOfCase(unittest.TestCase):

    def test_one_by_one(self):
        run = sides(300, 300) + ("lb",)
        found = runs_of_case(SIDES, run)
        self.assertIs(iter(found), found)
        first = in_time(SECONDS, lambda: list(islice(found, 5)))
        keys = [plain_cases.keys(SIDES, other) for other in first]
        self.assertEqual(keys, sorted(keys))
        self.assertEqual(first[0], ("fork",) + ("la",) * 300 + ("lb",) + ("ra",) * 300)
        self.assertEqual(first[1], ("fork",) + ("la",) * 300 + ("ra", "lb") + ("ra",) * 299)
        self.assertEqual(len(set(first)), 5)

    def test_long_runs(self):
        run = ("fork", "pay") + ("check", "back") * 549
        first = in_time(SECONDS, lambda: list(islice(runs_of_case(F, run), 3)))
        self.assertEqual([other.index("pay") for other in first], [2, 4, 6])
        self.assertEqual(len(list(runs_of_case(F, run))), 1099)
        self.assertEqual(next(runs_of_case(SIDES, ("fork",) + ("ra", "la") * 5000)), sides(5000, 5000))

    def test_no_steps(self):
        self.assertTrue(same(list(runs_of_case(F, ())), [()]))

    def test_a_changed_list_changes_nothing(self):
        found = list(runs_of_case(F, ("fork", "check", "pay")))
        found.append(())
        self.assertEqual(len(list(runs_of_case(F, ("fork", "check", "pay")))), 2)


class WrongRuns(unittest.TestCase):

    def test_positions(self):
        for run in ODD + (("fork", "join"), ("fork", "check", "check"), ["fork"], ("fork", ["pay"])):
            found = plain.follow(F, run, plain.first(F))
            raised = ("raised", "InvalidRun", {"at": found})
            if isinstance(found, int):
                for call in (normal_run, count_orders, runs_of_case):
                    self.assertTrue(same(outcome(call, F, run), raised), run)
                for call in (same_case, exchanges, difference):
                    self.assertTrue(same(outcome(call, F, run, ("stop",)), raised), run)
                    self.assertTrue(same(outcome(call, F, ("fork",), run), raised), run)
                for call in (are_exchanges, is_difference):
                    self.assertTrue(same(outcome(call, F, run, ("stop",), None), raised), run)
                    self.assertTrue(same(outcome(call, F, ("fork",), run, [1]), raised), run)

    def test_not_sound(self):
        for workflow in (B, L):
            for call in (normal_run, count_orders, runs_of_case):
                self.assertEqual(outcome(call, workflow, ("nosuch",))[1], "NotSound")
                self.assertEqual(outcome(call, workflow, ())[1], "NotSound")

    def test_a_generator_raises_by_its_first_value(self):
        self.assertEqual(outcome(lambda: next(runs_of_case(None, ())))[1], "InvalidWorkflow")
        self.assertEqual(outcome(lambda: next(runs_of_case(L, ())))[1], "NotSound")
        self.assertEqual(outcome(lambda: next(runs_of_case(F, ("pay",))))[1:], ("InvalidRun", {"at": 0}))

    def test_arguments_are_not_changed(self):
        values = (F, ("fork", "pay", "check"), ("fork", "check", "pay"), [1], ["fork", ["pay"]])
        before = copy_of(values)
        same_case(*values[:3])
        exchanges(*values[:3])
        are_exchanges(*values[:4])
        is_difference(*values[:4])
        outcome(normal_run, F, values[4])
        self.assertTrue(same(values, before))

    def test_the_same_marking(self):
        for workflow in some(FEW_RUNS, 30, 33):
            for run in runs(workflow, 5, 3):
                self.assertEqual(marking_after(workflow, normal_run(workflow, run)), marking_after(workflow, run))


if __name__ == "__main__":
    unittest.main()
