"""The chance that a case passes a marking, and whether a marking occurs."""

import unittest
from fractions import Fraction
from itertools import product
from random import Random

from caseflow.algebra.occurring import can_occur
from caseflow.algebra.weightings import weighting_basis
from caseflow.cases.numbers import case_lengths, complete_cases
from caseflow.readings.chances import chances_of, pass_chance
from caseflow.readings.passing import graph_of_pairs
from caseflow.sound.loops import states_on_loops
from tests import plain, plain_algebra, plain_readings
from tests.built import (
    EXACTLY_256, EXACTLY_257, LOOP_OF_100, LOOP_OF_101, PAIRS_4096, PAIRS_4097, RINGS_OF_100, RINGS_OF_101, branches,
)
from tests.pools import FEW_RUNS, LATE, LOOPS, SOUND, SPLIT, some
from tests.samples import A, C, D, F, ODD, P, chain, in_time, label, outcome, same
from tests.test_chances import some_chances, wrong_chances

SECONDS = 20
RINGS = {100: (RINGS_OF_100, (4, 2, 3, 4, 3)), 101: (RINGS_OF_101, (5, 2, 3, 4, 3))}


def with_tokens(workflow, places):
    return tuple(int(place in places) for place in range(workflow[0]))


def heads(lengths):
    """Returns the places at which the loops of such rings begin."""
    found, place = [], 2
    for length in lengths:
        found.append(place)
        place += length + 1
    return found


def pairs(workflow, begin, end):
    """Returns for each pair that the search meets, a marking and clusters put aside, the pairs behind it."""
    groups = plain_algebra.groups(workflow)
    found = {}
    waiting = [(begin, frozenset())]
    while waiting:
        marking, aside = waiting.pop()
        if (marking, aside) in found:
            continue
        enabled = [at for at in plain_readings.clusters_enabled(workflow, marking) if at not in aside]
        behind = []
        if enabled:
            steps = groups[enabled[0]]
            behind = [(plain.done(marking, step), aside) for step in steps]
            if all(end[place] for place in steps[0][1]):
                behind.append((marking, aside | {enabled[0]}))
        found[marking, aside] = behind
        waiting += behind
    return found


def many_on_loops(found):
    """Returns how many of the pairs lie on a loop."""
    many = 0
    for begin in found:
        reached, waiting = set(), list(found[begin])
        while waiting:
            pair = waiting.pop()
            if pair not in reached:
                reached.add(pair)
                waiting += found[pair]
        many += begin in reached
    return many


class Passing(unittest.TestCase):

    def test_without_loops(self):
        """Every marking, and all cases."""
        chance = Random(91)
        many, unmet = 0, 0
        for workflow in SOUND:
            longest = case_lengths(workflow)[1]
            if longest is None or longest > 9:
                continue
            chances = some_chances(chance, workflow)
            numbers = plain_readings.chances_of(workflow, chances)
            cases = list(complete_cases(workflow, longest=longest))
            first_order = plain_readings.met(workflow, range(len(plain_algebra.groups(workflow))))
            for marking in some(plain.reachable(workflow, 200), 12, 92):
                many += 1
                unmet += marking not in first_order and marking != plain.last(workflow)
                expected = sum(
                    plain_readings.product(plain_readings.of_run(workflow, numbers, run)) for run in cases
                    if plain_readings.case_passes(workflow, run, marking)
                )
                found = pass_chance(workflow, marking, chances=chances)
                self.assertTrue(same(found, plain_readings.as_pair(expected)), (workflow, marking))
        self.assertGreater(many, 300)
        self.assertGreater(unmet, 20)

    def test_with_loops(self):
        """The cases of at most eight steps leave little room for the others."""
        chance = Random(93)
        exact = 0
        for workflow in FEW_RUNS:
            if case_lengths(workflow)[1] is not None:
                continue
            # The loops are hardly taken, so that the chances of the short cases are great.
            chances = chances_of(workflow, **{
                step[0]: 1 if self.turns_back(workflow, step) else 1000 for step in workflow[1]
            })
            numbers = plain_readings.chances_of(workflow, chances)
            cases = [(plain_readings.product(plain_readings.of_run(workflow, numbers, run)), run)
                     for run in complete_cases(workflow, longest=8)]
            rest = 1 - sum(part for part, _ in cases)
            for marking in some(plain.reachable(workflow, 200), 4, 94):
                least = sum(part for part, run in cases if plain_readings.case_passes(workflow, run, marking))
                found = pass_chance(workflow, marking, chances=chances)
                self.assertTrue(least <= Fraction(*found) <= least + rest, (workflow, marking, found))
                exact += rest < Fraction(1, 1000)
        self.assertGreater(exact, 50)

    def turns_back(self, workflow, step):
        """Returns whether the step is not needed by one of the shortest cases."""
        shortest = case_lengths(workflow)[0]
        return all(step[0] not in run for run in complete_cases(workflow, longest=shortest))

    def test_some(self):
        self.assertTrue(same([pass_chance(C, (1, 0, 0)), pass_chance(C, (0, 0, 1)), pass_chance(C, (0, 1, 0))],
                             [(1, 1), (1, 1), (1, 1)]))
        self.assertTrue(same(pass_chance(A, (0, 0, 0, 1), chances=chances_of(A, sea=3)), (3, 4)))
        self.assertTrue(same([pass_chance(P, marking) for marking in ((1, 0, 0), (0, 0, 1), (0, 1, 0))], [(1, 1)] * 3))

    def test_a_marking_within_a_loop(self):
        # From place 4 the case goes back with the chance 1/2, and it can be paid at any time.
        for marking, expected in (
            ((0, 0, 1, 1, 0, 0, 0), (1, 1)), ((0, 0, 0, 1, 1, 0, 0), (1, 1)), ((0, 0, 1, 0, 0, 0, 1), (1, 1)),
            ((0, 0, 0, 0, 1, 0, 1), (1, 1)), ((0, 0, 0, 0, 0, 1, 1), (1, 1)), ((0, 0, 0, 1, 0, 1, 0), (1, 1)),
        ):
            self.assertTrue(same(pass_chance(F, marking), expected), marking)
        # The loop of SPLIT leads back before the fork, and a case may leave it at once.
        for places, expected in (((2,), (1, 1)), ((3, 4), (1, 2)), ((5, 4), (1, 2)), ((3, 6), (1, 2)), ((5, 6), (1, 2))):
            self.assertTrue(same(pass_chance(SPLIT, with_tokens(SPLIT, places)), expected), places)

    def test_where_one_branch_waits_in_a_loop(self):
        # One loop of LOOPS is left before the other one, and then the token stays until both meet.
        for places in ((4, 3), (2, 3), (6, 3), (2, 7), (4, 7), (6, 7), (5,)):
            self.assertTrue(same(pass_chance(LOOPS, with_tokens(LOOPS, places)), (1, 1)), places)
        # In LATE the short way is taken with the chance 1/3.
        chances = chances_of(LATE, late=2)
        for places, expected in (((4, 3), (2, 3)), ((4, 6), (2, 3)), ((5, 3), (1, 1)), ((2, 6), (1, 1))):
            self.assertTrue(same(pass_chance(LATE, with_tokens(LATE, places), chances=chances), expected), places)

    def test_larger_workflows(self):
        for workflow in (EXACTLY_256, LOOP_OF_100, RINGS_OF_100):
            first, last = plain.first(workflow), plain.last(workflow)
            for marking in (first, last):
                self.assertTrue(same(in_time(SECONDS, lambda: pass_chance(workflow, marking)), (1, 1)))
        # Each branch has a way through one of its places with the chance 1/2.
        marking = with_tokens(EXACTLY_256, (8, 11, 14, 17, 20, 23))
        self.assertTrue(same(in_time(SECONDS, lambda: pass_chance(EXACTLY_256, marking)), (1, 96)))


class Occurring(unittest.TestCase):

    def test_small_workflows(self):
        chance = Random(95)
        told = []
        for workflow in some(SOUND, 120, 96) + [D]:
            reachable = plain.reachable(workflow, 4096)
            tried = list(reachable)[:10]
            for _ in range(25):
                marking = list(chance.choice(reachable))
                for _ in range(chance.randint(1, 2)):
                    marking[chance.randrange(workflow[0])] += chance.choice((-1, 1, 1))
                tried.append(tuple(max(0, tokens) for tokens in marking))
                tried.append(tuple(chance.choice((0, 0, 1)) for _ in marking))
            for marking in tried:
                told.append(can_occur(workflow, marking))
                self.assertIs(told[-1], marking in reachable, (workflow, marking))
                if not told[-1]:
                    self.assertTrue(same(pass_chance(workflow, marking), (0, 1)))
        self.assertGreater(told.count(True), 500)
        self.assertGreater(told.count(False), 1000)

    def test_some(self):
        for workflow, marking in (
            (A, (0, 0, 1, 1)), (D, (0, 0, 1, 0, 0, 0, 0, 1)), (C, (0, 0, 0)), (C, (10 ** 9,) * 3), (C, (1, 1, 0)),
            (C, (0, 0, 2)), (F, (0, 0, 1, 0, 0, 0, 0)), (F, (0, 1, 0, 0, 0, 0, 1)),
        ):
            self.assertIs(can_occur(workflow, marking), False, marking)
            self.assertTrue(same(pass_chance(workflow, marking), (0, 1)), marking)

    def test_a_trap_without_a_token(self):
        # Every weighting agrees with these markings of D, but a trap does not.
        found = [marking for marking in product((0, 1), repeat=8)
                 if all(sum(w * t for w, t in zip(weighting, marking)) == weighting[0] for weighting in weighting_basis(D))]
        reachable = plain.reachable(D, 99)
        self.assertEqual([marking for marking in found if can_occur(D, marking)], sorted(reachable))
        wrong = [marking for marking in found if marking not in reachable]
        self.assertIn((0, 0, 1, 0, 0, 0, 0, 1), wrong)
        for marking in wrong:
            self.assertTrue(same(pass_chance(D, marking), (0, 1)), marking)

    def test_only_the_limits_of_all_functions(self):
        # These markings do not occur, so the search for pairs is left out.
        for workflow in (PAIRS_4097, RINGS_OF_101):
            self.assertTrue(same(pass_chance(workflow, (1,) * workflow[0]), (0, 1)))
        for workflow, limit in ((EXACTLY_257, 256), (LOOP_OF_101, 100)):
            raised = ("raised", "TooMany", {"limit": limit})
            self.assertTrue(same(outcome(pass_chance, workflow, (1,) * workflow[0]), raised))
            self.assertTrue(same(outcome(pass_chance, workflow, plain.first(workflow)), raised))


class Limits(unittest.TestCase):

    def test_exactly_4096_and_4097_pairs(self):
        marking = with_tokens(PAIRS_4096, range(2, 12))
        self.assertEqual(len(pairs(PAIRS_4096, plain.first(PAIRS_4096), marking)), 4096)
        self.assertTrue(same(in_time(SECONDS, lambda: pass_chance(PAIRS_4096, marking)), (1, 3)))
        marking = with_tokens(PAIRS_4097, range(2, 12))
        self.assertEqual(len(pairs(PAIRS_4097, plain.first(PAIRS_4097), marking)), 4097)
        result = in_time(SECONDS, lambda: outcome(pass_chance, PAIRS_4097, marking))
        self.assertTrue(same(result, ("raised", "TooMany", {"limit": 4096})))
        # Other markings of the same workflow need fewer pairs.
        for places in ((1,), (0,), range(12, 22)):
            self.assertEqual(outcome(pass_chance, PAIRS_4097, with_tokens(PAIRS_4097, places))[0], "returned")

    def test_very_many_pairs(self):
        many = 14
        steps = [("s" + label(k), (2 + k,), (2 + many + k,)) for k in range(many)]
        steps += [("fork", (0,), tuple(range(2, 2 + many))), ("join", tuple(range(2 + many, 2 + 2 * many)), (1,))]
        net = (2 + 2 * many, tuple(sorted(steps)))
        result = in_time(SECONDS, lambda: outcome(pass_chance, net, with_tokens(net, range(2, 2 + many))))
        self.assertTrue(same(result, ("raised", "TooMany", {"limit": 4096})))
        self.assertTrue(same(pass_chance(net, with_tokens(net, range(2 + many, 2 + 2 * many))), (1, 1)))

    def test_exactly_100_and_101_pairs_on_loops(self):
        for many, (workflow, lengths) in RINGS.items():
            marking = with_tokens(workflow, heads(lengths))
            for begin in (plain.first(workflow), marking):
                self.assertEqual(many_on_loops(pairs(workflow, begin, marking)), many)
            result = in_time(SECONDS, lambda: outcome(pass_chance, workflow, marking))
            if many == 100:
                self.assertTrue(same(result, ("returned", (1, 1))))
            else:
                self.assertTrue(same(result, ("raised", "TooMany", {"limit": 100})))
            self.assertTrue(same(pass_chance(workflow, plain.last(workflow)), (1, 1)))

    def test_all_pairs(self):
        for workflow in some(SOUND, 60, 97) + [F, D, LOOPS, SPLIT, LATE, RINGS_OF_100]:
            for marking in some(plain.reachable(workflow, 4096), 3, 98):
                for begin in (plain.first(workflow), marking):
                    expected = pairs(workflow, begin, marking)
                    graph = graph_of_pairs(workflow, begin, marking)
                    found = [(key, frozenset(aside)) for key, aside in graph.states]
                    self.assertEqual([len(found), set(found)], [len(expected), set(expected)])
                    self.assertEqual(len(states_on_loops(graph.states_behind())), many_on_loops(expected))

    def test_a_loop_that_was_left(self):
        workflow, lengths = RINGS[100]
        later = with_tokens(workflow, [heads(lengths)[0] + 4] + heads(lengths)[1:])
        self.assertTrue(same(pass_chance(workflow, later), (1, 1)))


class WrongArguments(unittest.TestCase):

    def test_markings(self):
        for value in ODD + ((1, 0), [1, 0, 0], (True, 0, 0), (1, 0, -1), (10 ** 9 + 1, 0, 0), "100", (1, 0, None)):
            if not plain.is_marking(P, value):
                for chances in (None, 0):
                    self.assertEqual(outcome(pass_chance, P, value, chances=chances), ("raised", "InvalidMarking", {}))

    def test_chances(self):
        for value in wrong_chances(((1, 2), (1, 2), (1, 1))) + ODD:
            if value is not None:
                for marking in ((1, 0, 0), (0, 0, 1), (5, 5, 5)):
                    self.assertEqual(outcome(pass_chance, P, marking, chances=value), ("raised", "InvalidChances", {}))
        for workflow in (EXACTLY_257, LOOP_OF_101, PAIRS_4097):
            self.assertEqual(
                outcome(pass_chance, workflow, (1,) * workflow[0], chances=()), ("raised", "InvalidChances", {})
            )
            self.assertEqual(outcome(pass_chance, workflow, (), chances=()), ("raised", "InvalidMarking", {}))

    def test_many_branches(self):
        # The search stays small where the marking has few tokens.
        self.assertTrue(same(pass_chance(chain(29), with_tokens(chain(29), (15,))), (1, 1)))
        workflow = branches((2, 2, 2, 2), 0)
        self.assertTrue(same(pass_chance(workflow, with_tokens(workflow, (2, 3, 4, 5))), (1, 1)))


if __name__ == "__main__":
    unittest.main()
