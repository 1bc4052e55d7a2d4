"""All runs of a length, and all reachable markings."""

import unittest
from itertools import islice
from random import Random

from caseflow.nets.runs import MAX_MARKINGS, all_runs, reachable_markings
from tests import plain
from tests.randoms import random_nets
from tests.samples import (
    APART, B, BACK, C, F, L, NETS, ODD, OVERLAP, P, PILE, STILL, chain, choices, in_time, label, outcome, same, wide,
)

SECONDS = 20


def first_runs(net, length, many):
    """Returns the first runs, each checked, or fails if they come too late."""
    return in_time(SECONDS, lambda: list(islice(all_runs(net, length=length), many)))


def pairs(many):
    """Returns a net: a fork to so many branches, each a choice of two steps, and then one more."""
    steps = [("fork", (0,), tuple(range(2, many + 2)))]
    for k in range(many):
        steps += [("l" + label(k), (k + 2,), (k + 2 + many,)), ("r" + label(k), (k + 2,), (k + 2 + many,))]
        steps += [("x" + label(k), (k + 2 + many,), (1,))]
    return (2 + 2 * many, tuple(sorted(steps)))


def trap(many):
    """Returns a net whose smallest step leads into many branches that end, and another one to a loop."""
    steps = [("a", (0,), tuple(range(3, many + 3))), ("b", (0,), (2,)), ("loop", (2,), (2,)), ("out", (2,), (1,))]
    steps += [("s" + label(k), (k + 3,), (1,)) for k in range(many)]
    return (many + 3, tuple(sorted(steps)))


# The two tokens that "grow" gives are enough for a third one, and so on.
DOUBLE = (4, (("grow", (0,), (2, 3)), ("left", (2,), (3,)), ("right", (3,), (1, 2)), ("turn", (1, 2), (0,))))
# "use" waits for three tokens on different places.
WAIT = (5, (("a", (0,), (0, 2)), ("b", (2,), (3,)), ("c", (2,), (4,)), ("use", (2, 3, 4), (1,))))
# The choice between "s" and "t" is fed by "more", so it goes on for long.
FED = (6, (("bb", (0,), (2, 3)), ("more", (3,), (3, 4)), ("s", (2, 4), (2,)), ("t", (2,), (5,)), ("u", (4, 5), (1,))))

# "a" takes the token for which "z" would wait until "b" is done; only "z" leads further.
LATER = (6, (("a", (2,), (1,)), ("b", (5,), (3,)), ("fork", (0,), (2, 5)), ("z", (2, 3), (4,)), ("zz", (4,), (1,))))
# The same, but place 3 gets its token by two steps, one after another.
LATEST = (7, (("a", (2,), (1,)), ("b", (5,), (6,)), ("c", (6,), (3,)), ("fork", (0,), (2, 5)),
              ("z", (2, 3), (4, 6)), ("zz", (4,), (1,))))
# "z" needs two places that are empty at first, and both are filled later.
BOTH = (8, (("a", (2,), (1,)), ("b", (5,), (3,)), ("c", (6,), (7,)), ("fork", (0,), (2, 5, 6)),
            ("z", (2, 3, 7), (2, 4)), ("zz", (4,), (1,))))

# Two ways of different lengths lead to place 2; the shorter one comes first.
DETOUR = (6, (("a", (0,), (2,)), ("b", (0,), (3,)), ("bb", (3,), (2,)), ("c", (2,), (4,)), ("d", (4,), (5,)),
              ("e", (5,), (1,))))


class AllRuns(unittest.TestCase):

    def test_some_runs(self):
        self.assertEqual(list(all_runs(P, length=2)), [("card", "ship"), ("cash", "ship")])
        self.assertEqual(list(all_runs(P, length=3)), [])
        self.assertEqual(list(all_runs(C, length=3)), [("begin", "again", "again"), ("begin", "again", "stop")])
        self.assertEqual(
            list(all_runs(L, length=3)), [("fork", "left", "right"), ("fork", "right", "left")]
        )
        self.assertEqual(list(all_runs(STILL, length=4)), [("stay",) * 4])
        self.assertEqual(list(all_runs(APART, length=1)), [("a",)])
        self.assertEqual(list(all_runs(APART, length=2)), [])
        self.assertEqual(list(all_runs(OVERLAP, length=1)), [("a",)])
        self.assertEqual(
            list(all_runs(PILE, length=3)),
            [("grow", "grow", "grow"), ("grow", "grow", "use"), ("grow", "use", "grow")],
        )

    def test_no_steps(self):
        for net in NETS + (wide(28), choices(40), (2, (("a", (1,), (0,)),))):
            self.assertEqual(list(all_runs(net, length=0)), [()])

    def test_nothing_enabled(self):
        net = (2, (("a", (1,), (0,)),))
        for length in (1, 2, 200):
            self.assertEqual(list(all_runs(net, length=length)), [])

    def test_many_nets(self):
        for net in NETS + (DOUBLE, WAIT, FED, LATER, LATEST, BOTH) + tuple(random_nets(120, 6, 5)):
            for length in range(8):
                expected = plain.runs(net, length)
                self.assertTrue(same(list(all_runs(net, length=length)), expected), (net, length))
                if len(expected) > 1500:
                    break

    def test_steps_that_wait(self):
        self.assertEqual(list(all_runs(LATER, length=4)), [("fork", "b", "z", "zz")])
        self.assertEqual(list(all_runs(LATER, length=5)), [])
        self.assertEqual(
            list(all_runs(LATEST, length=6)), [("fork", "b", "c", "z", "c", "zz"), ("fork", "b", "c", "z", "zz", "c")]
        )
        self.assertEqual(
            list(all_runs(BOTH, length=6)),
            [("fork", b, c, "z") + end for b, c in ("bc", "cb") for end in (("a", "zz"), ("zz", "a"))],
        )

    def test_two_ways_to_one_marking(self):
        self.assertEqual(
            [list(all_runs(DETOUR, length=length)) for length in (3, 4, 5, 6)],
            [[("a", "c", "d"), ("b", "bb", "c")], [("a", "c", "d", "e"), ("b", "bb", "c", "d")],
             [("b", "bb", "c", "d", "e")], []],
        )

    def test_nets_with_few_runs(self):
        for net in thin_nets(400):
            for length in range(12):
                expected = plain.runs(net, length)
                self.assertTrue(same(list(all_runs(net, length=length)), expected), (net, length))
                if len(expected) > 300:
                    break

    def test_exact_lengths(self):
        for many in (1, 5, 29):
            for length in range(many + 3):
                expected = [tuple(label(k) for k in range(length))] if length <= many else []
                self.assertEqual(list(all_runs(chain(many), length=length)), expected)

    def test_ascending_and_all_different(self):
        for net, length in ((F, 12), (pairs(3), 5), (choices(40), 1), (FED, 9), (WAIT, 8)):
            found = list(all_runs(net, length=length))
            self.assertEqual(found, sorted(set(found)))
            self.assertTrue(all(len(run) == length for run in found))

    def test_numbers_of_runs(self):
        self.assertEqual(len(list(all_runs(F, length=20))), len(plain.runs(F, 20)))
        self.assertEqual(len(list(all_runs(wide(6), length=7))), 720)
        self.assertEqual(len(list(all_runs(wide(6), length=5))), 360)
        self.assertEqual(len(list(all_runs(choices(40), length=1))), 40)

    def test_longest(self):
        self.assertEqual(first_runs(C, 200, 2)[0], ("begin",) + ("again",) * 199)
        self.assertEqual(list(all_runs(C, length=200))[1:], [("begin",) + ("again",) * 198 + ("stop",)])
        self.assertEqual(first_runs(F, 200, 1), [("fork",) + ("check", "back") * 99 + ("check",)])
        self.assertEqual(first_runs(PILE, 200, 2), [("grow",) * 200, ("grow",) * 199 + ("use",)])
        for net in (BACK, DOUBLE, WAIT, FED, STILL, lines_and_loop()):
            self.assertEqual(first_runs(net, 200, 1), [greedy(net, 200)])

    def test_lengths(self):
        for length in ODD + (-1, 201, 10 ** 39, True, False, None, "3", [3], (3,)):
            if type(length) is int and 0 <= length <= 200:
                continue
            raised = ("raised", "InvalidNumber", {"value": length})
            self.assertTrue(same(outcome(lambda: list(all_runs(P, length=length))), raised), length)

    def test_one_by_one(self):
        runs = all_runs(C, length=3)
        self.assertEqual(next(runs), ("begin", "again", "again"))
        others = all_runs(C, length=3)
        self.assertEqual(next(others), ("begin", "again", "again"))
        self.assertEqual([next(runs), next(runs, None), next(runs, None)], [("begin", "again", "stop"), None, None])
        self.assertEqual(list(others), [("begin", "again", "stop")])
        self.assertIs(iter(runs), runs)

    def test_first_ones_of_very_many(self):
        names = tuple("s" + label(k) for k in range(28))
        for length in range(1, 30):
            found = first_runs(wide(28), length, 3)
            self.assertEqual(found[0], (("fork",) + names)[:length])
        self.assertEqual(found[1], ("fork",) + names[:26] + (names[27], names[26]))
        self.assertEqual(found[2], ("fork",) + names[:25] + (names[26], names[25], names[27]))
        found = first_runs(choices_and_back(), 200, 5)
        self.assertEqual([run[-1] for run in found], ["aa", "ab", "ac", "ad", "ae"])
        for net in (DOUBLE, WAIT, FED):
            self.assertEqual(len(first_runs(net, 200, 5)), 5)

    def test_many_runs_that_are_too_short(self):
        for length in (30, 31, 200):
            self.assertEqual(first_runs(wide(28), length, 1), [])
        for length in (28, 60, 200):
            self.assertEqual(first_runs(pairs(13), length, 1), [])
        self.assertEqual(len(first_runs(pairs(13), 27, 10)), 10)
        self.assertEqual(first_runs(chain(29), 30, 1), [])
        self.assertEqual(first_runs(ladder(19), 21, 1), [])
        self.assertEqual(len(first_runs(ladder(19), 20, 10)), 10)

    def test_many_runs_that_end_before_the_first_long_one(self):
        self.assertEqual(first_runs(trap(27), 200, 1), [("b",) + ("loop",) * 199])
        self.assertEqual(first_runs(trap(27), 29, 2), [("b",) + ("loop",) * 28, ("b",) + ("loop",) * 27 + ("out",)])
        self.assertEqual(first_runs(trap(27), 28, 1)[0][:3], ("a", "saa", "sab"))

    def test_large_nets(self):
        for net in random_nets(30, 30, 40):
            for length in (10, 200):
                found = first_runs(net, length, 5)
                self.assertEqual(found, sorted(set(found)))
                for run in found:
                    self.assertEqual(len(run), length)
                    self.assertIsInstance(plain.follow(net, run, plain.first(net)), list)


def thin_nets(many):
    """Returns nets of a fork and steps that go on to higher places only, so that runs end."""
    chance = Random(5)
    nets = []
    for _ in range(many):
        steps = [("f", (0,), tuple(sorted(chance.sample(range(2, 9), 3))))]
        for name in chance.sample("abcdeghxyz", 7):
            inputs = tuple(sorted(chance.sample(range(2, 9), chance.choice((1, 1, 2, 2, 3)))))
            higher = list(range(max(inputs), 10))
            outputs = tuple(sorted(chance.sample(higher, min(len(higher), chance.choice((1, 1, 2))))))
            steps.append((name, inputs, outputs))
        nets.append((10, tuple(sorted(steps))))
    return nets


def greedy(net, length):
    """Returns the run in which the smallest enabled step is always done."""
    run = ()
    marking = plain.first(net)
    for _ in range(length):
        step = min(plain.enabled(net, marking))
        run += (step[0],)
        marking = plain.done(marking, step)
    return run


def lines_and_loop():
    """Returns the net of lines() in which the smallest step keeps the token of the start."""
    places, steps = lines()
    return (places, tuple(sorted(steps + (("aa", (0,), (0, 29)),))))


def choices_and_back():
    """Returns a net with 39 steps from the start to place 2, and one back."""
    steps = tuple((label(k), (0,), (0, 2)) for k in range(39))
    return (3, steps + (("z", (2,), (1,)),))


def ladder(many):
    """Returns a net with so many choices of two steps, one after another, and one more step."""
    steps = [("last", (many + 1,), (1,))]
    for k in range(many):
        begin = 0 if k == 0 else k + 1
        steps += [("l" + label(k), (begin,), (k + 2,)), ("r" + label(k), (begin,), (k + 2,))]
    return (many + 2, tuple(sorted(steps)))


class ReachableMarkings(unittest.TestCase):

    def test_many_nets(self):
        for net in NETS + (DOUBLE, WAIT, FED, wide(6), pairs(3), chain(29)) + tuple(random_nets(60, 6, 6)):
            expected = plain.reachable(net, 150)
            if expected is None:
                raised = ("raised", "TooMany", {"limit": 150})
                self.assertEqual(outcome(reachable_markings, net, limit=150), raised, net)
            else:
                self.assertTrue(same(reachable_markings(net), expected), net)
                self.assertTrue(same(reachable_markings(net, limit=150), expected), net)

    def test_every_limit(self):
        for net in (F, B, C, P, L, STILL, APART, wide(5)):
            expected = plain.reachable(net, 4096)
            for limit in list(range(1, len(expected) + 3)) + [4096]:
                result = outcome(reachable_markings, net, limit=limit)
                if limit < len(expected):
                    self.assertTrue(same(result, ("raised", "TooMany", {"limit": limit})), (net, limit))
                else:
                    self.assertTrue(same(result, ("returned", expected)), (net, limit))

    def test_one_marking(self):
        self.assertEqual(reachable_markings(STILL, limit=1), ((1, 0),))
        self.assertEqual(reachable_markings((2, (("a", (1,), (0,)),)), limit=1), ((1, 0),))
        self.assertEqual(outcome(reachable_markings, P, limit=1), ("raised", "TooMany", {"limit": 1}))

    def test_largest_limit(self):
        self.assertEqual(MAX_MARKINGS, 4096)
        # The fork of wide(12) leads to 2 ** 12 markings, besides the first one.
        raised = ("raised", "TooMany", {"limit": 4096})
        self.assertEqual(outcome(reachable_markings, wide(12)), raised)
        self.assertEqual(outcome(reachable_markings, wide(12), limit=4096), raised)
        self.assertEqual(len(reachable_markings(wide(11))), 2049)
        self.assertEqual(outcome(reachable_markings, wide(11), limit=2048), ("raised", "TooMany", {"limit": 2048}))
        self.assertEqual(len(reachable_markings(wide(11), limit=2049)), 2049)

    def test_exactly_4096(self):
        found = reachable_markings(lines())
        self.assertEqual(len(found), 4096)
        self.assertEqual(list(found), sorted(set(found)))
        self.assertTrue(same(reachable_markings(lines(), limit=4096), found))
        self.assertEqual(outcome(reachable_markings, lines(), limit=4095), ("raised", "TooMany", {"limit": 4095}))

    def test_tokens_pile_up(self):
        for net in (PILE, DOUBLE, WAIT, FED, BACK, choices_and_back()):
            for limit in (1, 2, 3, 100, 4096):
                raised = ("raised", "TooMany", {"limit": limit})
                self.assertEqual(in_time(SECONDS, lambda: outcome(reachable_markings, net, limit=limit)), raised, net)
            self.assertEqual(outcome(reachable_markings, net), ("raised", "TooMany", {"limit": 4096}))

    def test_large_nets(self):
        for net in [wide(28), trap(27), pairs(13), choices(40), chain(29)] + random_nets(60, 30, 40):
            in_time(SECONDS, lambda: outcome(reachable_markings, net))
            result = outcome(reachable_markings, net, limit=300)
            expected = plain.reachable(net, 300)
            if expected is None:
                self.assertEqual(result, ("raised", "TooMany", {"limit": 300}), net)
            else:
                self.assertTrue(same(result, ("returned", expected)), net)

    def test_limits(self):
        for limit in ODD + (0, -1, 4097, 10 ** 39, True, False, None, "3", [3], (3,)):
            if type(limit) is int and 1 <= limit <= 4096:
                continue
            raised = ("raised", "InvalidNumber", {"value": limit})
            for net in (P, PILE):
                self.assertTrue(same(outcome(reachable_markings, net, limit=limit), raised), limit)


def lines():
    """Returns a net with exactly 4096 reachable markings, most of its places and steps in use.

    There are four lines of seven places. For each choice of some lines a step puts a token on each of
    them. So each line is empty or has its token on one of seven places, which makes 8 ** 4 markings.
    """
    steps = []
    for chosen in range(1, 16):
        begins = tuple(2 + 7 * k for k in range(4) if chosen >> k & 1)
        steps.append(("f" + label(chosen), (0,), begins))
    for place in range(2, 30):
        if (place - 2) % 7 != 6:
            steps.append(("s" + label(place), (place,), (place + 1,)))
    return (30, tuple(steps))


if __name__ == "__main__":
    unittest.main()
