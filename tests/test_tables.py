"""Finish tables, and the structure of sound workflows."""

import unittest
from random import Random

from caseflow.sound.structure import has_sound_structure
from caseflow.sound.tables import finish_table, is_finish_table
from tests import plain, plain_algebra
from tests.built import (
    EXACTLY_256, EXACTLY_257, GROW, TOGETHER, TWICE, UNSOUND, branches, ladder, led_to, rhombs,
)
from tests.randoms import nearly_sound, random_sound, random_workflows
from tests.samples import (
    APART, B, BACK, C, D, F, L, ODD, OVERLAP, P, PILE, STILL, WORKFLOWS, chain, choices, copy_of, in_time, outcome,
    same, wide,
)

SECONDS = 20
SMALL = WORKFLOWS + (GROW, TWICE, ladder(4), rhombs(3), branches((2, 1), 1), branches((3, 2), 0)) + tuple(
    random_workflows(150, 4, 5) + random_workflows(80, 6, 7) + random_sound(40, 3) + nearly_sound(80, 3)
)


class FinishTable(unittest.TestCase):

    def test_some(self):
        self.assertTrue(same(finish_table(P), {(0, 0, 1): (1, 1), (1, 0, 0): (0, 2)}))
        self.assertTrue(same(finish_table((2, (("a", (0,), (1,)),))), {(1, 0): (0, 1)}))
        self.assertTrue(same(finish_table(choices(40)), {(1, 0): (0, 1)}))
        self.assertEqual([finish_table(L), finish_table(GROW), finish_table(TWICE)], [None, None, None])

    def test_many_workflows(self):
        found = [self.agrees(workflow) for workflow in SMALL]
        self.assertGreater(found.count(True), 80)
        self.assertGreater(found.count(False), 200)

    def agrees(self, workflow):
        """Fails unless the table is the right one. Returns whether the workflow is sound."""
        sound = plain_algebra.is_sound(workflow)
        result = finish_table(workflow)
        expected = plain_algebra.table(workflow, 256) if sound else None
        self.assertTrue(same(result, expected), workflow)
        if sound:
            self.assertEqual(list(result), sorted(result))
            self.assertIs(plain_algebra.is_table(workflow, result), True)
            self.assertIs(is_finish_table(workflow, result), True)
        return sound

    def test_the_smallest_number_of_steps(self):
        # The short way takes two steps, the long one four; the loop may be left at once.
        net = (7, (("a", (0,), (2,)), ("b", (2,), (1,)), ("c", (0,), (3,)), ("d", (3,), (4,)), ("e", (4,), (5,)),
                   ("f", (5,), (1,)), ("g", (5,), (6,)), ("h", (6,), (3,))))
        numbers = {marking.index(1): number for marking, (_, number) in finish_table(net).items()}
        self.assertEqual(numbers, {0: 2, 2: 1, 3: 3, 4: 2, 5: 1, 6: 4})

    def test_the_first_cluster_is_handled(self):
        table = finish_table(F)
        self.assertEqual(table[(0, 0, 1, 1, 0, 0, 0)], (1, 4))
        self.assertNotIn((0, 0, 1, 0, 0, 0, 1), [m for m, (cluster, _) in table.items() if cluster == 2])
        self.assertNotIn((0, 0, 0, 1, 0, 1, 0), table)

    def test_many_ways_to_one_marking(self):
        for net, number, many in ((ladder(20), 20, 20), (rhombs(9), 18, 27), (ladder(1), 1, 1)):
            table = in_time(SECONDS, lambda: finish_table(net))
            self.assertEqual([len(table), table[plain.first(net)]], [many, (0, number)])
            self.assertTrue(same(table, plain_algebra.table(net, 256)))

    def test_largest(self):
        self.assertEqual(len(plain_algebra.met(EXACTLY_256, 999)), 256)
        self.assertEqual(len(plain_algebra.met(EXACTLY_257, 999)), 257)
        table = finish_table(EXACTLY_256)
        self.assertTrue(same(table, plain_algebra.table(EXACTLY_256, 256)))
        self.assertEqual([len(table), table[plain.first(EXACTLY_256)]], [256, (0, 16)])
        self.assertIs(is_finish_table(EXACTLY_256, table), True)
        self.assertTrue(same(outcome(finish_table, EXACTLY_257), ("raised", "TooMany", {"limit": 256})))

    def test_too_many(self):
        for numbers, before in (((2,) * 7, 0), ((3, 3, 3, 3, 3), 0), ((6, 6, 6), 0), ((2,) * 6 + (1,), 1)):
            workflow = branches(numbers, before)
            self.assertIsNone(plain_algebra.met(workflow, 256))
            result = in_time(SECONDS, lambda: outcome(finish_table, workflow))
            self.assertTrue(same(result, ("raised", "TooMany", {"limit": 256})), numbers)

    def test_not_sound_with_many_markings(self):
        self.assertIsNone(plain_algebra.met(UNSOUND, 256))
        self.assertIsNone(finish_table(UNSOUND))
        # More and more tokens, before the first order comes to anything else.
        net = (4, (("a", (0,), (2,)), ("more", (2,), (2, 3)), ("out", (2,), (3,)), ("use", (3,), (1,))))
        self.assertIsNone(plain_algebra.met(net, 256))
        self.assertIsNone(finish_table(net))
        for numbers, before in (((2,) * 7, 0), ((3, 3, 3, 3, 3), 0), ((6, 6, 6), 0)):
            places, steps = branches(numbers, before)
            for name, _, outputs in steps:
                if name.startswith("x") and 1 not in outputs:
                    workflow = led_to((places, steps), name, (1,))
                    self.assertIsNone(in_time(SECONDS, lambda: finish_table(workflow)), (numbers, name))

    def test_not_sound_with_few_markings(self):
        for many in (2, 5, 20, 28):
            self.assertIsNone(finish_table(wide(many)))
        # The first order never comes to a marking from which it cannot go on, but one token is left.
        net = (4, (("a", (0,), (1, 2)), ("b", (2,), (3,)), ("c", (3,), (2,)), ("d", (3,), (1,))))
        self.assertIsNone(finish_table(net))

    def test_no_workflow(self):
        for value in list(ODD) + [PILE, OVERLAP, APART, STILL, BACK, list(C), (3, list(C[1]))]:
            if not plain.is_workflow(value):
                raised = ("raised", "InvalidWorkflow", {})
                self.assertEqual(outcome(finish_table, value), raised, value)
                for table in ({(1, 0, 0): (0, 2), (0, 0, 1): (1, 1)}, None, {}, {(True, 0): 1}):
                    self.assertEqual(outcome(is_finish_table, value, table), raised, value)

    def test_a_new_dict_each_time(self):
        table = finish_table(C)
        table[(1, 0, 0)] = None
        table[(5, 5, 5)] = (0, 1)
        self.assertEqual(finish_table(C), {(0, 0, 1): (1, 1), (1, 0, 0): (0, 2)})


class IsFinishTable(unittest.TestCase):

    def agree(self, workflow, value):
        before = copy_of(value)
        expected = plain_algebra.is_table(workflow, value)
        self.assertIs(is_finish_table(workflow, value), expected, (workflow, value))
        self.assertTrue(same(value, before))
        return expected

    def test_any_order_of_work(self):
        # First the check is finished, then it is paid.
        later = {(1, 0, 0, 0, 0, 0, 0): (0, 5), (0, 0, 1, 1, 0, 0, 0): (1, 4), (0, 0, 0, 1, 1, 0, 0): (3, 3),
                 (0, 0, 0, 1, 0, 1, 0): (2, 2), (0, 0, 0, 0, 0, 1, 1): (4, 1)}
        self.assertIs(is_finish_table(F, later), True)
        first = finish_table(F)
        self.assertIs(is_finish_table(F, {**first, **later}), True)
        self.assertIs(is_finish_table(F, {**later, **first}), True)

    def test_unreached_markings(self):
        table = finish_table(D)
        marking = (0, 0, 1, 0, 0, 0, 0, 1)
        self.assertEqual([table[(0, 0, 0, 0, 1, 0, 0, 1)], marking in plain.reachable(D, 99)], [(5, 2), False])
        for value, right in (
            ((1, 3), True), ((1, 99), True), ((1, 2), False), ((1, 1), False), ((5, 3), False), ((4, 3), False),
            ((2, 3), False), (None, False),
        ):
            self.assertIs(self.agree(D, {**table, marking: value}), right, value)
            self.assertIs(self.agree(D, {marking: value, **table}), right, value)
        # Behind "upper" place 2 and place 5 have a token, which the first order does not meet.
        more = {**table, marking: (5, 4), (0, 0, 1, 0, 0, 1, 0, 0): (1, 2)}
        self.assertIs(self.agree(D, more), True)
        more[(0, 0, 1, 0, 0, 1, 0, 0)] = (1, 1)
        self.assertIs(self.agree(D, more), False)

    def test_unreached_markings_that_are_not_finished(self):
        table = finish_table(C)
        for more in (
            {(0, 1, 1): (1, 1)}, {(2, 0, 0): (0, 1)}, {(0, 2, 0): (0, 1)}, {(0, 0, 0): (0, 1)},
            {(0, 0, 2): (1, 5), (0, 1, 1): (1, 4)}, {(0, 0, 2): (1, 5), (0, 1, 1): (1, 4), (0, 2, 0): (1, 3)},
        ):
            self.assertIs(self.agree(C, {**table, **more}), False, more)

    def test_several_tokens_on_a_place(self):
        net = (5, (("a", (0,), (2, 3)), ("b", (2, 3), (4,)), ("c", (4,), (2, 3)), ("d", (4,), (1,))))
        table = finish_table(net)
        self.assertIs(self.agree(net, table), True)
        # With one token more in each branch something is always left; a loop is no way to the end.
        for more in (
            {(0, 0, 2, 2, 0): (1, 9)}, {(0, 0, 2, 2, 0): (1, 9), (0, 0, 1, 1, 1): (2, 8)},
            {(0, 0, 2, 1, 0): (1, 9), (0, 0, 1, 0, 1): (2, 8)}, {(2, 0, 0, 0, 0): (0, 9), (1, 0, 1, 1, 0): (1, 8)},
        ):
            self.assertIs(self.agree(net, {**table, **more}), False, more)
            self.assertIs(self.agree(net, {**more, **table}), False, more)

    def test_a_loop_with_several_tokens(self):
        # "again" takes two tokens and gives them back, so all markings behind it are keys.
        table = finish_table(TOGETHER)
        self.assertIs(self.agree(TOGETHER, table), True)
        for more in ({(0, 0, 2, 2): (1, 7), (0, 1, 1, 1): (1, 6), (0, 2, 0, 0): (1, 5)}, {(0, 0, 2, 1): (1, 7)},
                     {(0, 0, 2, 2): (1, 7)}, {(0, 0, 10 ** 9, 10 ** 9): (1, 7)}):
            self.assertIs(self.agree(TOGETHER, {**table, **more}), False, more)

    def test_numbers(self):
        for one, other, right in (
            (2, 1, True), (9, 1, True), (9, 8, True), (10 ** 39, 1, True), (10 ** 5000, 10 ** 4999, True),
            (1, 1, False), (1, 2, False), (2, 0, False), (1, 0, False), (2, -1, False), (5, 5, False), (0, 1, False),
        ):
            self.assertIs(is_finish_table(C, {(1, 0, 0): (0, one), (0, 0, 1): (1, other)}), right, (one, other))
        # A smaller number is needed behind one of the steps, not behind all of them.
        table = finish_table(F)
        for marking, entry, right in (
            ((0, 0, 0, 0, 1, 0, 1), (3, 3), False), ((0, 0, 0, 0, 1, 0, 1), (3, 1), False),
            ((0, 0, 1, 0, 0, 0, 1), (1, 99), True), ((0, 0, 0, 0, 0, 1, 1), (4, 2), False),
            ((1, 0, 0, 0, 0, 0, 0), (0, 99), True), ((0, 0, 0, 1, 1, 0, 0), (2, 4), False),
        ):
            self.assertIs(is_finish_table(F, {**table, marking: entry}), right, entry)

    def test_parts_left_out(self):
        for workflow in (F, P, C, ladder(3), rhombs(2), branches((2, 1), 0)):
            table = finish_table(workflow)
            for marking in table:
                less = {key: table[key] for key in table if key != marking}
                self.assertIs(self.agree(workflow, less), False)
                self.agree(workflow, {**less, plain.last(workflow): (0, 1)})
        self.assertIs(is_finish_table(C, {}), False)

    def test_the_last_marking_is_no_key(self):
        for value in ((0, 1), (1, 1), (0, 99), None):
            self.assertIs(is_finish_table(C, {**finish_table(C), (0, 1, 0): value}), False)
            self.assertIs(is_finish_table(P, {(0, 1, 0): value, **finish_table(P)}), False)

    def test_the_first_marking_is_a_key(self):
        self.assertIs(is_finish_table(C, {(0, 0, 1): (1, 1)}), False)
        self.assertIs(is_finish_table(P, {(0, 0, 1): (1, 1)}), False)

    def test_clusters(self):
        for cluster, right in (
            (0, False), (1, True), (2, False), (-1, False), (-2, False), (5, False), (True, False), (False, False),
            (None, False), ("1", False), ((1,), False), ([1], False), (10 ** 39, False),
        ):
            self.assertIs(is_finish_table(C, {(1, 0, 0): (0, 2), (0, 0, 1): (cluster, 1)}), right, cluster)
        self.assertIs(is_finish_table(C, {(1, 0, 0): (False, 2), (0, 0, 1): (1, 1)}), False)

    def test_booleans(self):
        self.assertIs(is_finish_table(C, {(True, 0, 0): (0, 2), (0, 0, 1): (1, 1)}), False)
        self.assertIs(is_finish_table(C, {(1, 0, 0): (0, 2), (0, 0, True): (1, 1)}), False)
        self.assertIs(is_finish_table(C, {(1, 0, 0): (0, 2), (0, False, 1): (1, 1)}), False)
        self.assertIs(is_finish_table(C, {(1, 0, 0): (0, 2), (0, 0, 1): (1, True)}), False)
        self.assertIs(is_finish_table(C, {(1, 0, 0): (0, 2), (0, 0, 1): (True, 1)}), False)

    def test_too_many_tokens(self):
        full = 10 ** 9
        table = finish_table(C)
        for tokens in (full, full + 1, 10 ** 39, -1):
            self.assertIs(self.agree(C, {**table, (0, tokens, 1): (1, 1)}), False)

    def test_keys_of_other_kinds(self):
        for key in (
            None, True, 0, "", "100", (), (1,), (1, 0), (1, 0, 0, 0), (0, 0, None), (0, 0, "1"), ((0, 0, 1),),
            (0, 0, (1,)), (0, 0, -1), (0, 0, 10 ** 9 + 1), "x" * 40,
        ):
            self.assertIs(is_finish_table(C, {**finish_table(C), key: (1, 1)}), False, key)
            self.assertIs(is_finish_table(C, {key: (1, 1), **finish_table(C)}), False, key)

    def test_values_of_other_kinds(self):
        for workflow in (C, F):
            table = finish_table(workflow)
            for value in ODD + ((0,), (0, 1, 2), [0, 2], (0, [2]), (0, (2,)), (0, None), (0, "2"), {0: 2}):
                for marking in table:
                    if value != table[marking]:
                        self.agree(workflow, {**table, marking: value})
                self.agree(workflow, value)
            for value in (list(table.items()), tuple(table.items()), list(table), table, (table,), "x" * 100000):
                self.agree(workflow, value)

    def test_many_tables(self):
        chance = Random(12)
        right = 0
        for workflow in SMALL + (EXACTLY_256,):
            table = finish_table(workflow)
            if table is None:
                table = {m: (0, 1) for m in plain_algebra.met(workflow, 20) or []}
            for _ in range(6 if table else 0):
                marking = chance.choice(list(table))
                cluster, number = table[marking]
                changed = chance.choice((
                    (cluster, number + 1), (cluster, number - 1), (cluster + 1, number), (cluster - 1, number),
                    (cluster, 2 * number), (chance.randrange(9), number),
                ))
                right += self.agree(workflow, {**table, marking: changed})
        self.assertGreater(right, 100)

    def test_of_workflows_that_are_not_sound(self):
        for workflow in (B, L, GROW, TWICE, wide(3)):
            found = plain_algebra.met(workflow, 30) or [plain.first(workflow)]
            for value in ({}, {m: (0, 1) for m in found}, {m: (plain_algebra.first_handled(workflow, m)[0], 5)
                                                           for m in found}):
                self.assertIs(self.agree(workflow, value), False)


class Structure(unittest.TestCase):

    def test_agrees_with_the_tables(self):
        for workflow in SMALL + (EXACTLY_256, ladder(20), rhombs(9), wide(28), choices(40), chain(29), TOGETHER):
            self.assertIs(has_sound_structure(workflow), finish_table(workflow) is not None, workflow)

    def test_agrees_with_all_reachable_markings(self):
        for workflow in random_workflows(300, 3, 4) + random_workflows(300, 5, 5):
            self.assertIs(has_sound_structure(workflow), plain_algebra.is_sound(workflow), workflow)

    def test_large_workflows(self):
        for workflow in random_sound(30, 5):
            self.assertIs(has_sound_structure(workflow), True)
        for workflow in (branches((2,) * 7, 0), branches((6, 6, 6), 0), EXACTLY_257):
            self.assertIs(has_sound_structure(workflow), True)
        self.assertIs(has_sound_structure(UNSOUND), False)


if __name__ == "__main__":
    unittest.main()
