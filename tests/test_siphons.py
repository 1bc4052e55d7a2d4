"""Siphons and traps."""

import unittest
from random import Random

from caseflow.algebra.siphons import (
    empty_siphon, empty_trap, is_siphon, is_trap, largest_siphon, largest_trap,
)
from tests import plain, plain_algebra
from tests.plain_algebra import sets_of
from tests.randoms import random_nets, random_sound, random_workflows
from tests.samples import (
    APART, B, BACK, C, D, F, L, NETS, ODD, OVERLAP, P, PILE, STILL, chain, choices, in_time, outcome, same, variants,
    wide,
)

SECONDS = 20
FEW_PLACES = NETS + (D, choices(3), wide(3), chain(5)) + tuple(random_nets(40, 6, 6) + random_workflows(20, 5, 6))
GREATEST = (chain(29), choices(40), wide(28)) + tuple(random_nets(8, 30, 40)) + tuple(random_sound(4, 5))

# Is it one, the largest one of places, the empty one of a marking, and what the document says of it.
KINDS = (
    (is_siphon, largest_siphon, empty_siphon, plain_algebra.is_siphon),
    (is_trap, largest_trap, empty_trap, plain_algebra.is_trap),
)


def steps_of(net, closed):
    return plain_algebra.closed(net) if closed else list(net[1])


class AllSets(unittest.TestCase):

    def test_all_sets_of_few_places(self):
        for net in FEW_PLACES:
            for closed in (False, True):
                for is_one, largest, empty, expected in KINDS:
                    self.agree(net, closed, is_one, expected)
                    self.are_largest(net, closed, largest, empty, expected)

    def agree(self, net, closed, is_one, expected):
        for places in sets_of(range(net[0])):
            right = expected(steps_of(net, closed), places)
            self.assertIs(is_one(net, places, closed=closed), right, (net, places, closed))
            if not closed:
                self.assertIs(is_one(net, places), right, (net, places))

    def are_largest(self, net, closed, largest, empty, expected):
        some = [places for places in sets_of(range(net[0])) if expected(steps_of(net, closed), places)]
        for places in sets_of(range(net[0])):
            union = {place for one in some if set(one) <= set(places) for place in one}
            right = tuple(sorted(union))
            # Unions of siphons are siphons, and unions of traps are traps.
            self.assertIn(right, some)
            self.assertTrue(same(largest(net, places, closed=closed), right), (net, places, closed))
            marking = tuple(0 if place in places else 1 + place % 3 for place in range(net[0]))
            self.assertTrue(same(empty(net, marking, closed=closed), right), (net, marking, closed))
            if not closed:
                self.assertTrue(same(largest(net, places), right), (net, places))
                self.assertTrue(same(empty(net, marking), right), (net, marking))


class Some(unittest.TestCase):

    def test_the_empty_set_is_both(self):
        for net in FEW_PLACES + GREATEST:
            for closed in (False, True):
                self.assertIs(is_siphon(net, (), closed=closed), True)
                self.assertIs(is_trap(net, (), closed=closed), True)
                self.assertEqual(largest_siphon(net, (), closed=closed), ())
                self.assertEqual(largest_trap(net, (), closed=closed), ())
                self.assertEqual(empty_siphon(net, (1,) * net[0], closed=closed), ())
                self.assertEqual(empty_trap(net, (1,) * net[0], closed=closed), ())

    def test_start_and_end(self):
        self.assertEqual([is_siphon(F, (0,)), is_siphon(F, (0,), closed=True)], [True, False])
        self.assertEqual([is_trap(F, (1,)), is_trap(F, (1,), closed=True)], [True, False])
        self.assertEqual([is_siphon(F, (1,)), is_trap(F, (0,))], [False, False])
        self.assertEqual([is_siphon(C, (0, 1, 2), closed=True), is_trap(C, (0, 1, 2), closed=True)], [True, True])

    def test_the_document_s_trap(self):
        self.assertIs(is_trap(D, (0, 1, 3, 4, 5, 6), closed=True), True)
        self.assertEqual(empty_trap(D, (0, 0, 1, 0, 0, 0, 0, 1), closed=True), (0, 1, 3, 4, 5, 6))

    def test_one_place_after_another_is_dropped(self):
        net = chain(29)
        for at in range(2, 30):
            self.assertEqual(largest_siphon(net, tuple(range(1, 30))), ())
            self.assertEqual(largest_siphon(net, tuple(place for place in range(30) if place != at)),
                             (0,) + tuple(range(2, at)))
            self.assertEqual(largest_trap(net, tuple(place for place in range(30) if place != at)),
                             (1,) + tuple(range(at + 1, 30)))
        self.assertEqual(largest_siphon(net, tuple(range(30)), closed=True), tuple(range(30)))
        self.assertEqual(largest_siphon(net, tuple(range(29)), closed=True), ())
        self.assertEqual(largest_trap(net, tuple(range(1, 30)), closed=True), ())

    def test_tokens(self):
        self.assertEqual(empty_siphon(B, (0, 0, 0, 10 ** 9)), (0, 1, 2))
        self.assertEqual(empty_trap(F, (1, 0, 0, 0, 0, 0, 0)), (1, 2, 3, 4, 5, 6))
        self.assertEqual(empty_trap(F, (1, 0, 0, 0, 0, 0, 0), closed=True), ())
        self.assertEqual(empty_siphon(F, (0,) * 7), (0, 1, 2, 3, 4, 5, 6))


class Greatest(unittest.TestCase):

    def test_greatest_nets(self):
        chance = Random(8)
        for net in GREATEST:
            for _ in range(12):
                places = tuple(sorted(chance.sample(range(net[0]), chance.randint(net[0] // 2, net[0]))))
                for closed in (False, True):
                    for is_one, largest, empty, expected in KINDS:
                        found = in_time(SECONDS, lambda: largest(net, places, closed=closed))
                        self.assertIs(expected(steps_of(net, closed), found), True)
                        self.assertIs(is_one(net, found, closed=closed), True)
                        self.assertEqual(found, self.slowly(net, places, closed, largest))
                        marking = tuple(0 if place in places else 5 for place in range(net[0]))
                        self.assertEqual(empty(net, marking, closed=closed), found)

    def slowly(self, net, places, closed, largest):
        """Returns the largest one, found by dropping one place at a time, from the last one on."""
        steps = steps_of(net, closed)
        if largest == largest_trap:
            steps = [(name, outs, ins) for name, ins, outs in steps]
        left = list(places)
        while True:
            fed = [p for p in left if any(p in outs and not set(ins) & set(left) for _, ins, outs in steps)]
            if not fed:
                return tuple(left)
            left.remove(fed[-1])


class WrongValues(unittest.TestCase):

    VALUES = list(ODD) + list(variants((0, 1, 3))) + [
        (4,), (0, 4), (-1, 0), (0, 0, 1), (1, 0), (3, 1, 0), [0, 1, 3], {0: 1}, (True,), (False, 1), (0, True), "013",
        (0, "1"), (0, (1,)), (10 ** 5000,), (0, 10 ** 39), tuple(range(31)),
    ]

    def are_places(self, value):
        if type(value) is not tuple or any(type(part) is not int for part in value):
            return False
        return value in sets_of(range(4))

    def test_is_siphon_and_is_trap(self):
        for value in self.VALUES + ["x" * 100000]:
            for net in (B, L):
                for closed in (False, True):
                    for is_one, _, _, expected in KINDS:
                        right = self.are_places(value) and expected(steps_of(net, closed), value)
                        self.assertIs(is_one(net, value, closed=closed), right, value)

    def test_largest(self):
        for value in self.VALUES:
            for closed in (False, True):
                for _, largest, _, _ in KINDS:
                    result = outcome(largest, B, value, closed=closed)
                    if self.are_places(value):
                        self.assertEqual(result[0], "returned", value)
                    else:
                        self.assertEqual(result, ("raised", "InvalidPlaces", {}), value)

    def test_empty(self):
        values = list(ODD) + list(variants((0, 1, 0, 2))) + [[0, 0, 0, 0], (0, 0, 0), (0,) * 5, (0, 0, 0, True)]
        for value in values + [(0, 0, 0, 10 ** 9), (0, 0, 0, 10 ** 9 + 1), (0, 0, 0, -1)]:
            for closed in (False, True):
                for _, _, empty, _ in KINDS:
                    result = outcome(empty, B, value, closed=closed)
                    if plain.is_marking(B, value):
                        self.assertEqual(result[0], "returned", value)
                    else:
                        self.assertEqual(result, ("raised", "InvalidMarking", {}), value)

    def test_nets_that_are_no_workflows(self):
        for net in (PILE, OVERLAP, APART, STILL, BACK, P, L):
            for places in sets_of(range(net[0])):
                self.assertIs(is_siphon(net, places), plain_algebra.is_siphon(list(net[1]), places))
                self.assertIs(is_trap(net, places), plain_algebra.is_trap(list(net[1]), places))


if __name__ == "__main__":
    unittest.main()
