"""Weightings of places and counts of steps."""

import unittest
from random import Random

from caseflow.algebra.weightings import (
    are_counts, are_growing_counts, are_rising_weights, counts_basis, effect, effect_rank, growing_counts,
    is_weighting, positive_counts, positive_weighting, rising_weights, weighting_basis,
)
from tests import plain_algebra
from tests.randoms import balanced_nets, nearly_sound, random_nets, random_sound, random_workflows
from tests.samples import (
    APART, B, BACK, C, F, L, NETS, ODD, OVERLAP, P, PILE, STILL, chain, choices, in_time, label, outcome, same,
    variants, wide,
)

SECONDS = 20
TESTS = (
    (is_weighting, plain_algebra.is_weighting), (are_counts, plain_algebra.are_counts),
    (are_growing_counts, plain_algebra.are_growing), (are_rising_weights, plain_algebra.is_rising),
)
HUGE = 10 ** 5000

# "a" raises the sum of (0, 0, 1), and no step lowers it.
RISE = (3, (("a", (0,), (2,)), ("b", (2,), (1, 2))))


def twice_places(many):
    """Returns a net in which each place weighs twice the next one, from place 0 (as place 1) to the last two."""
    order = [0] + list(range(2, many))
    steps = [(label(k), (order[k],), tuple(sorted(order[k + 1:]))) for k in range(many - 2)]
    return (many, tuple(steps))


def twice_places_and_more(many, steps):
    """Returns the same net with more steps, so many in all; they follow from the others."""
    net = twice_places(many)
    order = [0] + list(range(2, many))
    more = []
    for k in range(steps - len(net[1])):
        # The first of the rest weighs as much as all others behind it.
        ins, outs = (order[k], order[k + 1]), (order[k],) + tuple(order[k + 2:])
        more.append((label(100 + k), tuple(sorted(ins)), tuple(sorted(outs))))
    return (many, net[1] + tuple(more))


def twice_steps(many):
    """Returns a net in which each step is done twice as often as the next one, but for the last two.

    Step k gives a token to a place of its own, from which each later step takes one.
    """
    own = list(range(2, many + 1))
    steps = [(label(0), (0,), (own[0],))]
    steps += [(label(k), tuple(own[:k]), (1, own[k])) for k in range(1, many - 1)]
    steps += [(label(many - 1), tuple(own), (1,))]
    return (many + 1, tuple(steps))


GREATEST = (
    twice_places(30), twice_places_and_more(30, 40), twice_steps(29), choices(40), wide(28), chain(29),
) + tuple(random_nets(12, 30, 40)) + tuple(net for _, net in balanced_nets(12, 30, 40, 9))
SMALL = NETS + (RISE, twice_places(6), twice_steps(5), choices(3), wide(3), chain(4)) + tuple(random_nets(60, 6, 6))


class Effects(unittest.TestCase):

    def test_every_step(self):
        for net in SMALL + GREATEST:
            for step in net[1]:
                self.assertTrue(same(effect(net, step[0]), tuple(plain_algebra.effect(net, step))), (net, step))

    def test_inputs_that_are_outputs(self):
        self.assertEqual(effect(C, "again"), (0, 0, 0))
        self.assertEqual(effect(PILE, "grow"), (0, 0, 1))
        self.assertEqual(effect(RISE, "b"), (0, 1, 0))
        self.assertEqual(effect(STILL, "stay"), (0, 0))

    def test_unknown_steps(self):
        for name in ODD + ("closing", "end", ["fork"], ("fork",), {"fork": 1}):
            if name not in ("fork", "back"):
                raised = ("raised", "UnknownStep", {"name": name})
                self.assertTrue(same(outcome(effect, F, name), raised), name)


class Tests(unittest.TestCase):
    """The functions whose names begin with is_ or are_."""

    def agree(self, net, value):
        for function, expected in TESTS:
            self.assertIs(function(net, value), expected(net, value), (function, net, value))

    def test_some(self):
        self.assertIs(is_weighting(F, (1, 1, 0, 1, 0, 0, 1)), True)
        self.assertIs(is_weighting(F, (0,) * 7), True)
        self.assertIs(is_weighting(F, (-1, -1, 0, -1, 0, 0, -1)), True)
        self.assertIs(is_weighting(F, (1,) * 7), False)
        self.assertIs(are_counts(C, (5, 2, 2, 2)), True)
        self.assertIs(are_counts(C, (-5, 0, 0, 0)), True)
        self.assertIs(are_counts(C, (5, 2, 2, 1)), False)
        self.assertIs(are_growing_counts(PILE, (1, 0, 0)), True)
        self.assertIs(are_growing_counts(PILE, (0, 0, 0)), False)
        self.assertIs(are_growing_counts(PILE, (0, 0, -1)), False)
        self.assertIs(are_rising_weights(RISE, (1, 1, 1)), True)
        self.assertIs(are_rising_weights(RISE, (0, 0, 0)), False)
        self.assertIs(are_rising_weights(RISE, (1, 1, 0)), False)

    def test_the_closing_step_belongs_to_it(self):
        net = (2, (("a", (0,), (1,)),))
        self.assertEqual([is_weighting(net, (1, 1)), is_weighting(net, (1, 2))], [True, False])
        self.assertEqual([are_counts(net, value) for value in ((1, 1), (1, 0), (1,))], [True, False, False])
        # Without the closing step these would grow, and the weights would rise.
        self.assertIs(are_growing_counts(net, (1, 0)), False)
        self.assertIs(are_rising_weights(net, (0, 1)), False)
        for value in ((0, 0), (0, 1), (1, 1), (2, 1), (-1, -1), (1, 2), (3, 3)):
            self.agree(net, value)

    def test_many_vectors(self):
        chance = Random(4)
        for net in SMALL:
            for width in (net[0], len(net[1]) + 1):
                for _ in range(25):
                    self.agree(net, tuple(chance.choice((-2, -1, 0, 0, 0, 1, 1, 2)) for _ in range(width)))
                self.agree(net, (0,) * width)
                self.agree(net, (1,) * width)
                self.agree(net, (-1,) * width)

    def test_sums_of_the_basis(self):
        chance = Random(5)
        for net in SMALL + GREATEST[:4]:
            for basis, function in ((weighting_basis(net), is_weighting), (counts_basis(net), are_counts)):
                for _ in range(5 if basis else 0):
                    times = [chance.randint(-9, 9) * chance.choice((1, HUGE)) for _ in basis]
                    value = tuple(sum(a * b for a, b in zip(times, column)) for column in zip(*basis))
                    self.assertIs(function(net, value), True)
                    at = chance.randrange(len(value))
                    self.agree(net, value[:at] + (value[at] + 1,) + value[at + 1:])

    def test_entries_of_any_size(self):
        self.assertIs(is_weighting(C, (HUGE, HUGE, HUGE)), True)
        self.assertIs(is_weighting(C, (HUGE, HUGE, HUGE + 1)), False)
        self.assertIs(are_counts(C, (HUGE, -HUGE, -HUGE, -HUGE)), True)
        self.assertIs(are_counts(C, (HUGE, -HUGE, HUGE, -HUGE)), False)
        self.assertIs(are_growing_counts(PILE, (HUGE, 1, 1)), True)
        self.assertIs(are_growing_counts(PILE, (HUGE, HUGE + 1, HUGE + 1)), False)
        self.assertIs(are_rising_weights(RISE, (HUGE, HUGE, HUGE)), True)
        self.assertIs(are_rising_weights(RISE, (HUGE + 1, HUGE + 1, HUGE)), False)

    def test_other_values(self):
        for net, right in (
            (F, (2, 2, 1, 1, 1, 1, 1)), (F, (1, 2, 1, 1, 1, 1, 1)), (B, (-1, -1, -1, -1)), (RISE, (0, 0, 1)),
            (PILE, (1, 0, 0)), (C, (1, 1, 1)), (C, (1, 1, 1, 1)),
        ):
            for value in list(variants(right)) + [list(right), right + (0,), right + (1,), right[:-1], (right,)]:
                self.agree(net, value)
        for value in ODD + ("x" * 100000, "111"):
            for net in (F, C, (2, (("a", (0,), (1,)),))):
                self.agree(net, value)

    def test_booleans_are_no_entries(self):
        for at in range(3):
            value = tuple(True if k == at else 1 for k in range(3))
            self.assertIs(is_weighting(C, value), False)
            value = tuple(False if k == at else 0 for k in range(3))
            self.assertIs(is_weighting(C, value), False)
        self.assertIs(are_counts(C, (True, 1, 1, 1)), False)
        self.assertIs(are_growing_counts(PILE, (True, 0, 0)), False)
        self.assertIs(are_rising_weights(RISE, (False, 0, 1)), False)


class Bases(unittest.TestCase):

    def is_reduced(self, basis):
        """Fails unless the rows have the form of a basis: each begins where all others have 0."""
        begins = [min(at for at, entry in enumerate(row) if entry != 0) for row in basis]
        self.assertEqual(begins, sorted(set(begins)))
        for row, begin in zip(basis, begins):
            self.assertGreater(row[begin], 0)
            self.assertTrue(plain_algebra.in_lowest_terms(row))
            self.assertEqual([other[begin] for other in basis if other != row], [0] * (len(basis) - 1))

    def test_some(self):
        self.assertEqual(weighting_basis(C), ((1, 1, 1),))
        self.assertEqual(counts_basis(C), ((1, 0, 0, 0), (0, 1, 1, 1)))
        self.assertEqual(weighting_basis(STILL), ((1, 1),))
        self.assertEqual(counts_basis(STILL), ((1, 0),))
        self.assertEqual(weighting_basis(PILE), ())
        self.assertEqual(counts_basis(PILE), ())
        self.assertEqual(counts_basis(choices(3)), ((1, 0, 0, 1), (0, 1, 0, 1), (0, 0, 1, 1)))
        self.assertEqual(counts_basis(BACK), ((1, 0, 0, 1),))
        self.assertEqual(weighting_basis(APART), ((1, 1, 1, 1),))

    def test_fractions_are_multiplied(self):
        # Two tokens on place 2 and one on place 3 weigh as much as one on the start.
        net = (4, (("a", (0,), (2, 3)), ("b", (2, 3), (1,)), ("c", (0, 2), (1, 3))))
        self.assertEqual(weighting_basis(net), ((2, 2, 1, 1),))
        net = (5, (("a", (0,), (2, 3, 4)), ("b", (2,), (3,)), ("c", (3,), (4,)), ("d", (2, 3, 4), (1,))))
        self.assertEqual(weighting_basis(net), ((3, 3, 1, 1, 1),))

    def test_many_nets(self):
        for net in SMALL:
            effects = plain_algebra.effects(net)
            expected = plain_algebra.null_space(effects)
            self.assertTrue(same(weighting_basis(net), expected), net)
            self.is_reduced(expected)
            expected = plain_algebra.null_space(plain_algebra.turned(effects))
            self.assertTrue(same(counts_basis(net), expected), net)
            self.is_reduced(expected)
            self.assertTrue(same(effect_rank(net), len(plain_algebra.echelon(effects)[1])), net)

    def test_greatest_nets(self):
        for net in GREATEST + tuple(random_sound(6, 5)):
            weightings, counts, rank = in_time(SECONDS, lambda: (
                weighting_basis(net), counts_basis(net), effect_rank(net)
            ))
            effects = plain_algebra.effects(net)
            self.assertTrue(same(weightings, plain_algebra.null_space(effects)), net)
            self.assertTrue(same(counts, plain_algebra.null_space(plain_algebra.turned(effects))), net)
            self.assertEqual([len(weightings), len(counts)], [net[0] - rank, len(net[1]) + 1 - rank])

    def test_each_place_weighs_twice_the_next_one(self):
        expected = (2 ** 27, 2 ** 27) + tuple(2 ** (26 - k) for k in range(27)) + (1,)
        for net in (twice_places(30), twice_places_and_more(30, 40)):
            self.assertEqual(weighting_basis(net), (expected,))
            self.assertEqual(effect_rank(net), 29)
        self.assertEqual(len(twice_places_and_more(30, 40)[1]), 40)

    def test_each_step_is_done_twice_as_often_as_the_next_one(self):
        expected = tuple(2 ** (27 - k) for k in range(28)) + (1, 2 ** 27)
        self.assertEqual(counts_basis(twice_steps(29)), (expected,))

    def test_ranks(self):
        self.assertEqual([effect_rank(choices(40)), effect_rank(STILL), effect_rank(chain(29))], [1, 1, 29])
        self.assertEqual([effect_rank(P), effect_rank(C), effect_rank(L), effect_rank(PILE)], [2, 2, 4, 3])
        self.assertIs(type(effect_rank(P)), int)


class Alternatives(unittest.TestCase):

    def decided(self, net):
        """Fails unless of each pair exactly one is there, and right. Returns which ones are there."""
        results = in_time(SECONDS, lambda: [
            positive_weighting(net), growing_counts(net), positive_counts(net), rising_weights(net)
        ])
        weighting, growing, counts, rising = results
        self.assertNotEqual(weighting is None, growing is None, net)
        self.assertNotEqual(counts is None, rising is None, net)
        if weighting is not None:
            self.assertTrue(plain_algebra.is_weighting(net, weighting) and min(weighting) >= 1, net)
            self.assertIs(is_weighting(net, weighting), True)
        else:
            self.assertTrue(plain_algebra.are_growing(net, growing), net)
            self.assertIs(are_growing_counts(net, growing), True)
        if counts is not None:
            self.assertTrue(plain_algebra.are_counts(net, counts) and min(counts) >= 1, net)
            self.assertIs(are_counts(net, counts), True)
        else:
            self.assertTrue(plain_algebra.is_rising(net, rising), net)
            self.assertIs(are_rising_weights(net, rising), True)
        return (weighting is not None, counts is not None)

    def test_some(self):
        self.assertEqual(
            [self.decided(net) for net in (F, P, C, B, L, PILE, OVERLAP, APART, STILL, BACK, RISE)],
            [(True, True), (True, True), (True, True), (False, False), (False, False), (False, False),
             (False, False), (True, False), (True, False), (False, False), (False, False)],
        )

    def test_all_kinds(self):
        # A loop that makes a token more is balanced by one that takes it away, so only counts are positive.
        net = (3, (("a", (0,), (0, 2)), ("b", (0, 2), (0,)), ("c", (0,), (1,))))
        self.assertEqual(self.decided(net), (False, True))
        net = (3, (("a", (0,), (1,)), ("b", (0,), (2,))))
        self.assertEqual(self.decided(net), (True, False))

    def test_many_nets(self):
        found = [self.decided(net) for net in SMALL]
        found += [self.decided(net) for net in random_nets(200, 4, 5) + random_workflows(40, 6, 7)]
        self.assertEqual(sorted(set(found)), [(False, False), (False, True), (True, False), (True, True)])

    def test_sound_workflows(self):
        for net in random_sound(40, 3) + random_sound(20, 5):
            self.assertEqual(self.decided(net), (True, True))
        for net in nearly_sound(60, 3):
            self.decided(net)

    def test_greatest_nets(self):
        for net in GREATEST:
            self.decided(net)

    def test_balanced_nets(self):
        for weights, net in balanced_nets(30, 30, 40, 30) + balanced_nets(30, 12, 20, 5):
            self.assertIs(is_weighting(net, weights), True)
            self.assertIs(self.decided(net)[0], True)

    def test_nets_that_are_nearly_balanced(self):
        chance = Random(6)
        for _, net in balanced_nets(40, 30, 39, 12):
            ins, outs = (tuple(sorted(chance.sample(range(30), chance.randint(1, 4)))) for _ in range(2))
            self.decided((30, net[1] + (("zz", ins, outs),)))
            at = chance.randrange(39)
            name, ins, outs = net[1][at]
            outs = tuple(sorted({chance.randrange(30)} | set(outs)))
            self.decided((30, net[1][:at] + ((name, ins, outs),) + net[1][at + 1:]))

    def test_each_place_weighs_twice_the_next_one(self):
        for net in (twice_places(30), twice_places_and_more(30, 40)):
            weighting = positive_weighting(net)
            self.assertEqual([2 * weighting[k + 1] for k in range(2, 28)], [weighting[k] for k in range(2, 28)])
            self.assertGreaterEqual(weighting[0], 2 ** 27)

    def test_each_step_is_done_twice_as_often_as_the_next_one(self):
        net = twice_steps(29)
        counts = positive_counts(net)
        self.assertEqual([2 * counts[k + 1] for k in range(27)], [counts[k] for k in range(27)])
        self.assertGreaterEqual(counts[0], 2 ** 27)
        self.assertIs(are_counts(net, counts), True)

    def test_great_sums_that_nearly_fit(self):
        # One step more lets the last place weigh as much as the two before it.
        net = twice_places(30)
        net = (30, net[1] + (("zz", (29,), (27, 28)),))
        self.assertEqual(self.decided(net)[0], False)


if __name__ == "__main__":
    unittest.main()
