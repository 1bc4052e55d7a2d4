"""Markings, and what is enabled at them."""

import unittest

from caseflow.nets.runs import (
    MAX_TOKENS, enabled_clusters, enabled_steps, first_marking, is_marking, last_marking,
)
from tests import plain
from tests.randoms import random_nets
from tests.samples import B, C, F, L, NETS, ODD, P, PILE, WORKFLOWS, choices, outcome, same, variants, wide


class Markings(unittest.TestCase):

    def test_first_and_last(self):
        for net in NETS + (choices(1), wide(28), (30, (("a", (0,), (1,)),))):
            self.assertTrue(same(first_marking(net), plain.first(net)))
            self.assertTrue(same(last_marking(net), plain.last(net)))
            self.assertEqual(len(first_marking(net)), net[0])

    def test_markings(self):
        for marking in ((0, 0, 0), (1, 0, 0), (0, 1, 0), (5, 6, 7), (10 ** 9,) * 3, (0, 0, 10 ** 9)):
            self.assertIs(is_marking(C, marking), True, marking)

    def test_numbers_of_tokens(self):
        for at in range(3):
            for tokens in (0, 1, 2, 10 ** 9 - 1, 10 ** 9, 10 ** 9 + 1, 10 ** 39, 10 ** 5000, -1, -10 ** 39):
                marking = (1,) * at + (tokens,) + (0,) * (2 - at)
                self.assertIs(is_marking(C, marking), 0 <= tokens <= 10 ** 9, marking)

    def test_lengths(self):
        for many in range(9):
            self.assertIs(is_marking(F, (0,) * many), many == 7, many)

    def test_wrong_values(self):
        for net in (C, F, (2, (("a", (0,), (1,)),))):
            for marking in [plain.first(net), (3,) * net[0]]:
                for value in list(variants(marking)) + [list(marking), "1" * net[0], {0: 1, 1: 0, 2: 0}]:
                    expected = plain.is_marking(net, value)
                    self.assertIs(is_marking(net, value), expected, value)
                    if not expected:
                        raised = ("raised", "InvalidMarking", {})
                        self.assertEqual(outcome(enabled_steps, net, value), raised, value)
                        self.assertEqual(outcome(enabled_clusters, net, value), raised, value)

    def test_booleans_are_no_tokens(self):
        self.assertIs(is_marking(C, (True, 0, 0)), False)
        self.assertIs(is_marking(C, (1, False, 0)), False)
        self.assertIs(is_marking(C, (1, 0, False)), False)

    def test_most_tokens(self):
        self.assertEqual(MAX_TOKENS, 10 ** 9)


class Enabled(unittest.TestCase):

    def test_enabled_steps(self):
        self.assertEqual(enabled_steps(P, (1, 0, 0)), ("card", "cash"))
        self.assertEqual(enabled_steps(P, (0, 0, 0)), ())
        self.assertEqual(enabled_steps(B, (0, 0, 1, 0)), ())
        self.assertEqual(enabled_steps(B, (0, 0, 0, 1)), ())
        self.assertEqual(enabled_steps(B, (0, 0, 1, 1)), ("both",))
        self.assertEqual(enabled_steps(B, (2, 0, 3, 10 ** 9)), ("both", "left", "right"))
        self.assertEqual(enabled_steps(PILE, (10 ** 9, 0, 10 ** 9)), ("grow", "use"))

    def test_enabled_clusters(self):
        self.assertEqual(enabled_clusters(P, (1, 0, 1)), (0, 1))
        self.assertEqual(enabled_clusters(P, (0, 0, 0)), ())
        self.assertEqual(enabled_clusters(B, (0, 0, 1, 0)), ())
        self.assertEqual(enabled_clusters(B, (0, 0, 1, 1)), (1,))
        self.assertEqual(enabled_clusters(L, (0, 0, 1, 1)), (1, 2))

    def test_nothing_is_enabled_at_the_last_marking(self):
        for net in WORKFLOWS:
            self.assertEqual(enabled_steps(net, last_marking(net)), ())
            self.assertEqual(enabled_clusters(net, last_marking(net)), ())

    def test_many_markings(self):
        for net in NETS + tuple(random_nets(25, 7, 7)):
            for marking in _markings(net):
                expected = tuple(step[0] for step in plain.enabled(net, marking))
                self.assertTrue(same(enabled_steps(net, marking), expected), (net, marking))
                if plain.defects(net) == ():
                    sides = sorted(set(step[1] for step in net[1]))
                    expected = tuple(at for at, side in enumerate(sides) if all(marking[p] for p in side))
                    self.assertTrue(same(enabled_clusters(net, marking), expected), (net, marking))


def _markings(net):
    return [tuple((seed >> place) * (place + 1) & 1 for place in range(net[0])) for seed in range(1, 130, 7)] + [
        tuple(seed * place % 3 for place in range(1, net[0] + 1)) for seed in range(1, 8)
    ]


if __name__ == "__main__":
    unittest.main()
