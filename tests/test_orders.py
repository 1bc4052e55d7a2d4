"""Orders of work, closed plans, and sums over all cases."""

import unittest
from random import Random

from caseflow.cases.cases import runs_of_case, same_case
from caseflow.cases.numbers import case_at, case_lengths, complete_cases
from caseflow.nets.runs import enabled_clusters, markings_on
from caseflow.readings.orders import (
    is_closed_plan, is_order, is_weight_table, order_plan, ordered_run, planned_run, weight_sum,
)
from caseflow.sound.tables import finish_table
from tests import plain, plain_algebra, plain_cases, plain_readings
from tests.built import (
    EXACTLY_256, EXACTLY_257, LOOP_OF_101, TOGETHER, branches, ladder, rings,
)
from tests.pools import FEW_RUNS, LATE, LOOPS, SOUND, SPLIT, TWINS, some
from tests.samples import C, D, F, ODD, P, chain, choices, copy_of, in_time, outcome, same

SECONDS = 20
TOO_MANY = ("raised", "TooMany", {"limit": 256})
PLAN_OF_C = {(1, 0, 0): 0, (0, 0, 1): 1}


def orders(workflow, many, seed):
    """Returns orders of the workflow, the first one among them."""
    numbers = list(range(len(plain_algebra.groups(workflow))))
    chance = Random(seed)
    return [tuple(numbers), tuple(numbers[::-1])] + [tuple(chance.sample(numbers, len(numbers))) for _ in range(many)]


def some_plan(chance, workflow):
    """Returns a closed plan that handles any cluster at each marking."""
    plan = {}
    waiting = [plain.first(workflow)]
    while waiting:
        marking = waiting.pop()
        if marking not in plan and marking != plain.last(workflow):
            plan[marking] = chance.choice(plain_readings.clusters_enabled(workflow, marking))
            waiting += [plain.done(marking, step) for step in plain_algebra.groups(workflow)[plan[marking]]]
    return plan


def weights_of(chance, workflow, least=-3, most=3):
    return tuple(chance.randint(least, most) for _ in workflow[1])


def weight_table(workflow, plan, weights):
    """Returns the weight table of a plan without loops."""
    found = plain_readings.moves(workflow, plan)
    table = {plain.last(workflow): 1}
    while len(table) <= len(plan):
        for key in found:
            if key not in table and all(after in table for _, after in found[key]):
                table[key] = sum(weights[at] * table[after] for at, after in found[key])
    return table


class Orders(unittest.TestCase):

    def test_all_orders(self):
        for workflow in (C, P, F, D):
            for order in orders(workflow, 5, 51):
                self.assertIs(is_order(workflow, order), True)
                self.assertIs(is_order(workflow, order + (len(order),)), False)
                self.assertIs(is_order(workflow, order[1:]), False)
                self.assertIs(is_order(workflow, order[:-1] + order[:1]), len(order) == 1)
                self.assertIs(is_order(workflow, list(order)), False)

    def test_other_values(self):
        for value in ODD + ((0, 1), (1, 0), (False, True), (0, True), (0, 1, 2), (0, 2), (-1, 0), ("0", "1"), "01",
                            (0, (1,)), (0, None), ([0], 1), {0: 0, 1: 1}, (0, 10 ** 5000), "x" * 100000):
            right = same(value, (0, 1)) or same(value, (1, 0))
            self.assertIs(is_order(C, value), right, value)
            raised = ("raised", "InvalidOrder", {})
            for call in (
                lambda: order_plan(C, order=value), lambda: ordered_run(C, ("begin", "stop"), order=value),
                lambda: weight_sum(C, (1, 1, 1), order=value),
            ):
                if right or value is None:
                    self.assertEqual(outcome(call)[0], "returned")
                else:
                    self.assertTrue(same(outcome(call), raised), value)


class OrderPlan(unittest.TestCase):

    def test_small_workflows(self):
        for workflow in some(SOUND, 80, 52):
            for order in orders(workflow, 3, 53):
                plan = order_plan(workflow, order=order)
                self.assertTrue(same(plan, dict(sorted(plain_readings.met(workflow, order).items()))), workflow)
                self.assertIs(is_closed_plan(workflow, plan), True)
            self.assertTrue(same(order_plan(workflow), order_plan(workflow, order=orders(workflow, 0, 0)[0])))
            self.assertTrue(same(order_plan(workflow, order=None), order_plan(workflow)))

    def test_as_finish_tables(self):
        for workflow in (F, C, D, LOOPS, EXACTLY_256):
            table = finish_table(workflow)
            self.assertTrue(same(order_plan(workflow), {key: table[key][0] for key in table}))

    def test_exactly_256_and_257_markings(self):
        self.assertEqual(len(order_plan(EXACTLY_256)), 256)
        self.assertTrue(same(outcome(order_plan, EXACTLY_257), TOO_MANY))
        # By the opposite order a branch is finished before the next one begins.
        for workflow in (EXACTLY_256, EXACTLY_257):
            self.assertLess(len(order_plan(workflow, order=orders(workflow, 0, 0)[1])), 60)
        self.assertTrue(same(outcome(order_plan, EXACTLY_257, order=(0, 1)), ("raised", "InvalidOrder", {})))

    def test_a_new_dict_each_time(self):
        plan = order_plan(C)
        plan.clear()
        self.assertTrue(same(order_plan(C), {(0, 0, 1): 1, (1, 0, 0): 0}))


class IsClosedPlan(unittest.TestCase):

    def agree(self, workflow, value):
        before = copy_of(value)
        expected = plain_readings.is_plan(workflow, value)
        self.assertIs(is_closed_plan(workflow, value), expected, (workflow, value))
        self.assertTrue(same(value, before))
        return expected

    def test_any_choice_of_clusters(self):
        chance = Random(54)
        for workflow in some(SOUND, 60, 55) + [LATE, SPLIT, LOOPS]:
            plans = [some_plan(chance, workflow) for _ in range(3)]
            for plan in plans:
                self.assertIs(self.agree(workflow, plan), True)
            # Two plans in one: where both have a key, either cluster will do.
            self.assertIs(self.agree(workflow, {**plans[0], **plans[1]}), True)
            self.assertIs(self.agree(workflow, {**plans[1], **plans[0], **plans[2]}), True)

    def test_one_entry_otherwise(self):
        chance = Random(56)
        right = 0
        for workflow in some(SOUND, 80, 57) + [LATE, SPLIT, D]:
            plan = some_plan(chance, workflow)
            for key in list(plan)[:6]:
                others = {other: plan[other] for other in plan if other != key}
                self.assertIs(self.agree(workflow, others), False)
                for cluster in (plan[key] + 1, plan[key] - 1, chance.randrange(5), -1, True, False, None, "0", (0,)):
                    right += self.agree(workflow, {**others, key: cluster})
        self.assertGreater(right, 10)

    def test_keys_that_no_run_meets(self):
        plan = order_plan(D)
        marking = (0, 0, 1, 0, 0, 0, 0, 1)
        self.assertIs(self.agree(D, {**plan, marking: 5}), False)
        for cluster in plain_readings.clusters_enabled(D, marking):
            self.agree(D, {**plan, marking: cluster})
        after = {marking: 1, (0, 0, 0, 0, 1, 0, 0, 1): plan[(0, 0, 0, 0, 1, 0, 0, 1)]}
        self.assertIs(self.agree(D, {**plan, **after}), True)
        # "again" gives back both tokens, so nothing has to be finished.
        never = {(0, 0, 5, 5): 1, (0, 1, 4, 4): 1}
        self.assertIs(self.agree(TOGETHER, {**order_plan(TOGETHER), **never}), False)

    def test_several_tokens_on_a_place(self):
        # A plan may have keys from which nothing is ever finished.
        net = (4, (("a", (0,), (2,)), ("b", (2,), (3,)), ("c", (3,), (2,)), ("d", (3,), (1,))))
        plan = order_plan(net)
        more = {(0, 0, 2, 0): 1, (0, 0, 1, 1): 1, (0, 0, 0, 2): 2, (0, 1, 0, 1): 2, (0, 2, 0, 0): 0, (0, 1, 1, 0): 1}
        self.assertIs(self.agree(net, {**plan, **more}), False)
        del more[(0, 2, 0, 0)]
        self.assertIs(self.agree(net, {**plan, **more}), False)
        for full in (10 ** 9, 10 ** 9 + 1):
            self.assertIs(self.agree(C, {**PLAN_OF_C, (0, 0, full): 1}), False)

    def test_first_and_last_marking(self):
        self.assertIs(self.agree(C, PLAN_OF_C), True)
        self.assertIs(self.agree(C, {(0, 0, 1): 1}), False)
        for cluster in (0, 1, None):
            self.assertIs(self.agree(C, {**PLAN_OF_C, (0, 1, 0): cluster}), False)
        self.assertIs(self.agree(C, {}), False)

    def test_booleans_and_other_kinds(self):
        for value in (
            {(True, 0, 0): 0, (0, 0, 1): 1}, {(1, 0, 0): False, (0, 0, 1): 1}, {(1, 0, 0): 0, (0, 0, True): 1},
            {(1, 0, 0): 0, (0, 0, 1): True}, {(1, 0, False): 0, (0, 0, 1): 1}, {**PLAN_OF_C, None: 0},
            {**PLAN_OF_C, (1, 0): 0}, {**PLAN_OF_C, "100": 0}, {**PLAN_OF_C, (0, 0, -1): 0}, list(PLAN_OF_C),
            tuple(PLAN_OF_C.items()), (PLAN_OF_C,), None, "x" * 100000, {(1, 0, 0): [0], (0, 0, 1): 1},
            {(1, 0, 0): (0, 2), (0, 0, 1): (1, 1)}, {(1, 0, 0): 10 ** 39, (0, 0, 1): 1},
        ) + ODD:
            right = same(value, PLAN_OF_C)
            self.assertIs(self.agree(C, value), right, value)


class Runs(unittest.TestCase):

    def by_plan(self, workflow, run, plan):
        """Fails unless the run follows the plan."""
        clusters = [key[0] for key in plain_cases.keys(workflow, run)]
        passed = plain.follow(workflow, run, plain.first(workflow))
        self.assertEqual([plan[marking] for marking in passed[:-1]], clusters)
        self.assertEqual(passed[-1], plain.last(workflow))

    def test_small_workflows(self):
        chance = Random(58)
        for workflow in some(FEW_RUNS, 80, 59):
            for run in list(complete_cases(workflow, longest=9))[:5]:
                some_run = chance.choice(list(runs_of_case(workflow, run)))
                for order in orders(workflow, 2, 60):
                    found = ordered_run(workflow, some_run, order=order)
                    self.assertIs(same_case(workflow, run, found), True)
                    self.by_plan(workflow, found, plain_readings.met(workflow, order))
                plans = [some_plan(chance, workflow) for _ in range(3)]
                for plan in plans + [{**plans[0], **plans[1]}]:
                    found = planned_run(workflow, some_run, plan)
                    self.assertIs(same_case(workflow, run, found), True)
                    self.by_plan(workflow, found, plan)
                self.assertTrue(same(ordered_run(workflow, some_run), run))
                self.assertTrue(same(planned_run(workflow, some_run, order_plan(workflow)), run))

    def test_exactly_one_run_of_a_case_follows_a_plan(self):
        chance = Random(61)
        for workflow in (F, D, LOOPS, SPLIT, LATE):
            plan = some_plan(chance, workflow)
            run = case_at(workflow, case_lengths(workflow)[0], 0)
            following = []
            for other in runs_of_case(workflow, run):
                clusters = [key[0] for key in plain_cases.keys(workflow, other)]
                if [plan.get(marking) for marking in markings_on(workflow, other)[:-1]] == clusters:
                    following.append(other)
            self.assertEqual(following, [planned_run(workflow, run, plan)])

    def test_long_runs(self):
        run = ("fork", "pay") + ("check", "back") * 549 + ("check", "pass", "join")
        found = in_time(SECONDS, lambda: ordered_run(F, run, order=(4, 3, 2, 1, 0)))
        self.assertEqual(found, ("fork", "pay") + ("check", "back") * 549 + ("check", "pass", "join"))
        self.assertEqual(ordered_run(F, run, order=(0, 1, 3, 2, 4))[-2:], ("pay", "join"))

    def test_nothing_is_too_many(self):
        for workflow in (EXACTLY_257, branches((2,) * 7, 0)):
            run = self.complete_run(workflow)
            for order in orders(workflow, 2, 62):
                self.assertIs(same_case(workflow, run, ordered_run(workflow, run, order=order)), True)
            plan = order_plan(workflow, order=orders(workflow, 0, 0)[1])
            self.assertEqual(planned_run(workflow, run, plan), ordered_run(workflow, run, order=orders(workflow, 0, 0)[1]))

    def complete_run(self, workflow):
        marking, run = plain.first(workflow), ()
        while marking != plain.last(workflow):
            step = plain.enabled(workflow, marking)[0]
            marking, run = plain.done(marking, step), run + (step[0],)
        return run

    def test_wrong_runs(self):
        for run in ODD + (("fork",), ("fork", "pay", "check"), ("fork", "join")):
            found = plain.follow(F, run, plain.first(F))
            at = found if isinstance(found, int) else len(run)
            raised = ("raised", "InvalidRun", {"at": at})
            self.assertTrue(same(outcome(ordered_run, F, run, order=(0, 1)), raised), run)
            self.assertTrue(same(outcome(planned_run, F, run, None), raised), run)

    def test_wrong_plans(self):
        run = ("card", "ship")
        plan = {(1, 0, 0): 0, (0, 0, 1): 1}
        for value in ODD + ({(1, 0, 0): 0}, {**plan, (0, 1, 0): 0}, {(True, 0, 0): 0, (0, 0, 1): 1}, list(plan)):
            if not plain_readings.is_plan(P, value):
                self.assertEqual(outcome(planned_run, P, run, value), ("raised", "InvalidPlan", {}), value)
        self.assertEqual(planned_run(P, run, plan), run)


class WeightSum(unittest.TestCase):

    def test_sums_over_all_cases(self):
        chance = Random(63)
        some_negative = 0
        for workflow in SOUND:
            longest = case_lengths(workflow)[1]
            weights = weights_of(chance, workflow)
            if longest is None:
                self.assertIsNone(weight_sum(workflow, weights))
                continue
            cases = list(complete_cases(workflow, longest=longest))
            expected = sum(plain_readings.product(plain_readings.of_run(workflow, weights, run)) for run in cases)
            some_negative += expected < 0
            for order in orders(workflow, 3, 64) + [None]:
                found = weight_sum(workflow, weights, order=order)
                self.assertTrue(same(found, int(expected)), (workflow, weights, order))
            self.assertEqual(weight_sum(workflow, (1,) * len(workflow[1])), len(cases))
        self.assertGreater(some_negative, 5)

    def test_some(self):
        self.assertTrue(same(weight_sum(ladder(20), (1,) * 40), 2 ** 20))
        self.assertTrue(same(weight_sum(ladder(20), (10 ** 9,) * 40), 2 ** 20 * 10 ** 180))
        self.assertTrue(same(weight_sum(chain(29), (-10 ** 9,) * 29), -10 ** 261))
        self.assertTrue(same(weight_sum(P, (0, 0, 0)), 0))
        self.assertTrue(same(weight_sum(choices(3), (-5, 2, 10 ** 9)), 10 ** 9 - 3))
        self.assertEqual(weight_sum(branches((2, 3), 1), (1,) * len(branches((2, 3), 1)[1])), 6)

    def test_without_a_longest_case(self):
        for workflow in (C, F, D, LOOPS, SPLIT, TWINS, TOGETHER, LOOP_OF_101, rings((3, 2))):
            for order in orders(workflow, 2, 65) + [None]:
                self.assertIsNone(weight_sum(workflow, (0,) * len(workflow[1]), order=order))

    def test_a_loop_comes_before_the_number_of_markings(self):
        places, steps = branches((2,) * 7, 0)
        # A step of the first branch can be repeated.
        first = [step for step in steps if step[0] == "waaaa"][0]
        loop = (places, tuple(sorted(steps + (("repeat", first[1], first[1]),))))
        self.assertIsNone(plain_algebra.met(loop, 256))
        self.assertIsNone(weight_sum(loop, (1,) * len(loop[1])))
        self.assertTrue(same(outcome(order_plan, loop), TOO_MANY))
        self.assertTrue(same(outcome(weight_sum, (places, steps), (1,) * len(steps)), TOO_MANY))

    def test_exactly_256_and_257_markings(self):
        self.assertEqual(weight_sum(EXACTLY_256, (1,) * len(EXACTLY_256[1])), 2 ** 5 * 3)
        ones = (1,) * len(EXACTLY_257[1])
        self.assertTrue(same(outcome(weight_sum, EXACTLY_257, ones), TOO_MANY))
        self.assertEqual(weight_sum(EXACTLY_257, ones, order=orders(EXACTLY_257, 0, 0)[1]), 2 ** 5 * 3)

    def test_wrong_weights(self):
        for weights in ODD + (
            (1, 1), (1, 1, 1, 1), [1, 1, 1], (1, 1, True), (1, 1, None), (10 ** 9 + 1, 1, 1), (1, 1, -10 ** 9 - 1),
            (1, 1, "1"), (1, 1, (1,)), (1, 1, [1]), "111", {0: 1, 1: 1, 2: 1}, (10 ** 5000, 1, 1), (1, 1, 0.5),
        ):
            if type(weights) is tuple and same([type(weight) for weight in weights], [int, int, int]):
                if max(map(abs, weights)) <= 10 ** 9:
                    continue
            raised = ("raised", "InvalidNumber", {"value": weights})
            for order in (None, (0, 1), (0, 0)):
                self.assertTrue(same(outcome(weight_sum, P, weights, order=order), raised), weights)
            self.assertTrue(same(outcome(is_weight_table, P, weights, None), raised), weights)
        for weights in ((10 ** 9, -10 ** 9, 0), (1, 1, 1)):
            self.assertEqual(outcome(weight_sum, P, weights)[0], "returned")


class WeightTable(unittest.TestCase):

    def test_every_plan(self):
        chance = Random(66)
        many = 0
        for workflow in SOUND:
            if case_lengths(workflow)[1] is None:
                continue
            weights = weights_of(chance, workflow, -9, 9)
            for plan in (some_plan(chance, workflow), order_plan(workflow)):
                many += 1
                table = weight_table(workflow, plan, weights)
                self.assertIs(is_weight_table(workflow, weights, (plan, table)), True)
                self.assertEqual(table[plain.first(workflow)], weight_sum(workflow, weights))
                for key in list(table)[:5]:
                    self.assertIs(is_weight_table(workflow, weights, (plan, {**table, key: table[key] + 1})), False)
                    less = {other: table[other] for other in table if other != key}
                    self.assertIs(is_weight_table(workflow, weights, (plan, less)), False)
        self.assertGreater(many, 100)

    def test_two_plans_joined_into_one(self):
        chance = Random(67)
        for workflow in (LATE, branches((2, 1), 1), P):
            weights = weights_of(chance, workflow)
            plan = {**some_plan(chance, workflow), **some_plan(chance, workflow)}
            table = weight_table(workflow, plan, weights)
            self.assertIs(is_weight_table(workflow, weights, (plan, table)), True)

    def test_without_a_longest_case(self):
        # x = 2 * x + 3 has the solution -3; with the weight 1 there is none; with 0 for both, any will do.
        for weights, number, right in (
            ((2, 1, 3), -3, True), ((2, 1, 3), 3, False), ((1, 1, 3), 3, False), ((1, 1, 0), 10 ** 50, True),
            ((1, 1, 0), -7, True), ((0, 1, 3), 3, True), ((-1, 1, 4), 2, True), ((-1, 1, 4), -2, False),
        ):
            table = {(1, 0, 0): number * weights[1], (0, 0, 1): number, (0, 1, 0): 1}
            self.assertIs(is_weight_table(C, weights, (PLAN_OF_C, table)), right, (weights, number))

    def test_unreached_keys(self):
        net = (4, (("a", (0,), (2,)), ("b", (0,), (3,)), ("c", (2,), (1,)), ("d", (3,), (1,))))
        plan = order_plan(net)
        table = weight_table(net, plan, (2, 3, 5, 7))
        self.assertIs(is_weight_table(net, (2, 3, 5, 7), (plan, table)), True)
        self.assertEqual(table[plain.first(net)], 31)
        for key in ((0, 0, 1, 1), (0, 0, 2, 0), (0, 0, 0, 0)):
            self.assertIs(is_weight_table(net, (2, 3, 5, 7), (plan, {**table, key: 0})), False)
            self.assertIs(is_weight_table(net, (2, 3, 5, 7), ({**plan, key: 1}, {**table, key: 0})), False)
        marking = (0, 0, 1, 0, 0, 0, 0, 1)
        plan = {**order_plan(D), marking: 1}
        weights = (0,) * 8
        table = {key: 0 for key in plan}
        table[(0, 1, 0, 0, 0, 0, 0, 0)] = 1
        self.assertIs(is_weight_table(D, weights, (plan, table)), True)
        self.assertIs(is_weight_table(D, weights, (plan, {**table, marking: 1})), False)

    def test_wrong_tables(self):
        plan = {(1, 0, 0): 0, (0, 0, 1): 1}
        table = {(1, 0, 0): 25, (0, 0, 1): 5, (0, 1, 0): 1}
        for value in (
            (plan, {**table, (0, 1, 0): 2}), (plan, {**table, (0, 1, 0): True}), (plan, {**table, (0, 1, 1): 5}),
            (plan, {(1, 0, 0): 25, (0, 0, 1): 5}), (plan, {(1, 0, 0): 25, (0, 0, 1): 5, (0, True, 0): 1}),
            (plan, {(1, 0, 0): 25, (0, 0, 1): 5, (0, 0, 0): 1}), (plan, {**table, (1, 0, 0): "25"}),
            (plan, {**table, (1, 0, 0): (25, 1)}), (plan, {**table, (0, 0, 1): None}), (plan, list(table)),
            (plan, None), (None, table), (table, plan), [plan, table], (plan,), (plan, table, table), {0: plan, 1: table},
            ({(1, 0, 0): 0}, {(1, 0, 0): 25, (0, 1, 0): 1}), ({**plan, (0, 1, 0): 0}, table), ({}, {(0, 1, 0): 1}),
            ({(1, 0, 0): 0, (0, 0, 1): True}, table), ({(True, 0, 0): 0, (0, 0, 1): 1}, table), ({}, {}), "x" * 100000,
        ) + ODD:
            before = copy_of(value)
            self.assertIs(is_weight_table(P, (2, 3, 5), value), False, value)
            self.assertTrue(same(value, before))
        self.assertIs(is_weight_table(P, (2, 3, 5), (plan, table)), True)
        self.assertIs(is_weight_table(P, (2, 3, 6), (plan, table)), False)
        # With weights of 1 the booleans of a table are still no integers.
        self.assertIs(is_weight_table(chain(2), (1, 1), ({(1, 0, 0): 0, (0, 0, 1): 1}, {
            (1, 0, 0): 1, (0, 0, 1): True, (0, 1, 0): 1,
        })), False)

    def test_many_keys(self):
        weights = tuple(Random(68).randint(-10 ** 9, 10 ** 9) for _ in EXACTLY_256[1])
        plan = order_plan(EXACTLY_256)
        table = in_time(SECONDS, lambda: weight_table(EXACTLY_256, plan, weights))
        self.assertIs(in_time(SECONDS, lambda: is_weight_table(EXACTLY_256, weights, (plan, table))), True)
        self.assertEqual(weight_sum(EXACTLY_256, weights), table[plain.first(EXACTLY_256)])

    def test_clusters_of_a_plan(self):
        for workflow in (F, D):
            plan = order_plan(workflow)
            self.assertTrue(all(plan[marking] == enabled_clusters(workflow, marking)[0] for marking in plan))


if __name__ == "__main__":
    unittest.main()
