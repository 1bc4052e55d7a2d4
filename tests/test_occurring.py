"""Occurring markings and occurrence papers."""

import unittest
from itertools import product
from random import Random

from caseflow.algebra.weightings import weighting_basis
from caseflow.editions.markings import is_occurrence_paper, occurrence_paper, occurs
from caseflow.sound.papers import is_structure_paper
from tests import plain, plain_algebra, plain_occurring
from tests.built import (
    END_BEHIND_4096, END_BEHIND_4097, EXACTLY_257, FAULT_BEHIND_4096, GROW, PAIRS_4097, UNSOUND, branches, ladder,
)
from tests.pools import LOOPS, NOT_SOUND, SOUND, SPLIT, small, some
from tests.samples import (
    A, APART, B, C, D, F, L, ODD, OVERLAP, P, PILE, STILL, chain, choices, copy_of, in_time, outcome, same, variants,
)

TOO_MANY = ("raised", "TooMany", {"limit": 4096})
SECONDS = 20


def markings(workflow, most, chance, many):
    """Returns markings with at most so many tokens on a place: all of them, or some if there are more than `many`."""
    if (most + 1) ** workflow[0] <= many:
        return list(product(range(most + 1), repeat=workflow[0]))
    return [tuple(chance.choice((0, 0, 0, 1, most)) for _ in range(workflow[0])) for _ in range(many)]


class Occurring(unittest.TestCase):

    def test_compared_with_a_search(self):
        chance = Random(441)
        kinds = {"run": 0, "weighting": 0, "trap": 0}
        for workflow in [F, D, LOOPS, SPLIT] + some(SOUND, 25, 442):
            reached = plain_occurring.distances(workflow)
            tried = markings(workflow, 1, chance, 256 if workflow == D else 70) + markings(workflow, 2, chance, 20)
            tried += [plain.done(m, step) for m in list(reached)[:20] for step in workflow[1][:3]
                      if min(plain.done(m, step)) >= 0]
            for marking in tried + some(reached, 30, 443):
                expected = marking in reached
                self.assertIs(occurs(workflow, marking), expected, (workflow, marking))
                paper = occurrence_paper(workflow, marking)
                self.assertIs(plain_occurring.is_paper(workflow, marking, paper), True, (workflow, marking, paper))
                self.assertIs(is_occurrence_paper(workflow, marking, paper), True)
                self.assertIs(paper[0] == "run", expected)
                kinds[paper[0]] += 1
        self.assertGreater(min(kinds.values()), 1)

    def test_great_numbers_of_tokens(self):
        for workflow in (C, F, D):
            for at in range(workflow[0]):
                marking = tuple(10 ** 9 if place == at else 0 for place in range(workflow[0]))
                self.assertIs(occurs(workflow, marking), False)
                self.assertEqual(occurrence_paper(workflow, marking)[0], "weighting")
            self.assertIs(occurs(workflow, (10 ** 9,) * workflow[0]), False)
            self.assertIs(occurs(workflow, (0,) * workflow[0]), False)

    def test_traps(self):
        # In D the weightings alone do not tell which of the places are marked together.
        marking = (0, 0, 1, 0, 0, 0, 0, 1)
        self.assertEqual(occurrence_paper(D, marking), ("trap", (0, 1, 3, 4, 5, 6)))
        for other in ((0, 0, 0, 1, 0, 0, 1, 0), marking):
            self.assertIs(occurs(D, other), False)
            self.assertIs(is_occurrence_paper(D, other, ("weighting", weighting_basis(D)[0])), False)

    def test_large_workflows(self):
        for workflow in (EXACTLY_257, END_BEHIND_4097, PAIRS_4097, branches((2,) * 6, 2), ladder(20), choices(40)):
            marking = plain.first(workflow)
            run = ()
            while plain.enabled(workflow, marking):
                self.assertIs(occurs(workflow, marking), True)
                more = tuple(tokens + (at == 0) for at, tokens in enumerate(marking))
                self.assertIs(occurs(workflow, more), False)
                self.assertIs(is_occurrence_paper(workflow, marking, ("run", run)), True)
                self.assertIs(is_occurrence_paper(workflow, more, occurrence_paper(workflow, more)), True)
                step = plain.enabled(workflow, marking)[-1]
                run += (step[0],)
                marking = plain.done(marking, step)
            self.assertEqual(marking, plain.last(workflow))
            self.assertIs(occurs(workflow, marking), True)


class Papers(unittest.TestCase):

    def test_papers_made_by_hand(self):
        chance = Random(444)
        right = {"run": 0, "weighting": 0, "trap": 0}
        for workflow in [F, C, P, D] + list(small(some(SOUND, 30, 445), 6)):
            basis = weighting_basis(workflow)
            places = list(range(workflow[0]))
            papers = [("trap", some_places) for some_places in some(plain_algebra.sets_of(places), 40, 450)]
            papers += [("weighting", tuple(chance.randint(-2, 2) for _ in places)) for _ in range(10)]
            for _ in range(20):
                factors = [chance.randint(-3, 3) for _ in basis]
                papers.append(("weighting", tuple(sum(f * row[p] for f, row in zip(factors, basis)) for p in places)))
            papers += [("run", run) for many in range(5) for run in plain.runs(workflow, many)[:10]]
            for marking in markings(workflow, 1, chance, 8) + some(plain_occurring.distances(workflow), 3, 446):
                for paper in papers:
                    expected = plain_occurring.is_paper(workflow, marking, paper)
                    self.assertIs(is_occurrence_paper(workflow, marking, paper), expected, (workflow, marking, paper))
                    right[paper[0]] += expected
        self.assertGreater(min(right.values()), 10)

    def test_great_weights(self):
        weighting = tuple(10 ** 5000 * weight for weight in (1, 1, 0, 1, 0, 0, 1))
        self.assertIs(is_occurrence_paper(F, (0, 0, 1, 0, 0, 0, 0), ("weighting", weighting)), True)
        self.assertIs(is_occurrence_paper(F, (0, 0, 1, 1, 0, 0, 0), ("weighting", weighting)), False)

    def test_every_value(self):
        for workflow, marking, papers in (
            (C, (0, 0, 1), [("run", ("begin", "again"))]),
            (F, (0, 0, 1, 0, 0, 0, 0), [("weighting", (1, 1, 0, 1, 0, 0, 1)), ("trap", (0, 1, 3, 6))]),
            (D, (0, 0, 1, 0, 0, 0, 0, 1), [("trap", (0, 1, 3, 4, 5, 6)), ("run", ("begin", "left"))]),
        ):
            for paper in papers:
                for value in list(variants(paper)) + list(ODD) + ["x" * 100000, "\x00", list(paper), paper + (None,)]:
                    expected = plain_occurring.is_paper(workflow, marking, value)
                    self.assertIs(is_occurrence_paper(workflow, marking, value), expected, (workflow, value))
        self.assertIs(is_occurrence_paper(C, (0, 0, 1), ("run", ["begin"])), False)
        self.assertIs(is_occurrence_paper(C, (0, 0, 0), ("trap", (False, 1, 2))), False)
        self.assertIs(is_occurrence_paper(C, (0, 0, 0), ("trap", (0, 1, 2))), True)
        self.assertIs(is_occurrence_paper(C, (0, 0, 0), ("trap", (2, 1, 0))), False)
        self.assertIs(is_occurrence_paper(C, (0, 0, 0), ("trap", ())), False)
        self.assertIs(is_occurrence_paper(C, (0, 0, 0), ("weighting", (True, 1, 1))), False)


class Limits(unittest.TestCase):

    def test_shortest_runs_behind_many_markings(self):
        for workflow, many in ((END_BEHIND_4096, 4096), (END_BEHIND_4097, 4097)):
            reached = plain_occurring.distances(workflow)
            last = plain.last(workflow)
            self.assertEqual(len([marking for marking in reached if reached[marking] < reached[last]]), many)
            self.assertEqual(len(reached), many + 1)
            result = in_time(SECONDS, lambda: outcome(occurrence_paper, workflow, last))
            if many == 4097:
                self.assertEqual(result, TOO_MANY)
            else:
                self.assertEqual([result[1][0], len(result[1][1])], ["run", reached[last]])
                self.assertIs(is_occurrence_paper(workflow, last, result[1]), True)
            # A marking that is reached earlier has a paper.
            for marking in some([marking for marking in reached if marking != last], 10, 447):
                paper = occurrence_paper(workflow, marking)
                self.assertEqual(len(paper[1]), reached[marking])
                self.assertIs(is_occurrence_paper(workflow, marking, paper), True)
            # What does not occur has a paper in a workflow of any size, and the others do not look at all markings.
            other = last[:2] + (1,) + last[3:]
            self.assertEqual(occurrence_paper(workflow, other)[0], "weighting")
            self.assertIs(occurs(workflow, last), True)
            self.assertIs(is_occurrence_paper(workflow, last, ("run", ())), False)


class Errors(unittest.TestCase):

    FUNCTIONS = ((occurs, ()), (occurrence_paper, ()), (is_occurrence_paper, (("run", ()),)))

    def test_markings(self):
        for function, more in self.FUNCTIONS:
            for value in list(ODD) + list(variants((0, 0, 1)))[::3]:
                if not plain.is_marking(C, value):
                    self.assertEqual(outcome(function, C, value, *more), ("raised", "InvalidMarking", {}), value)
            self.assertEqual(outcome(function, END_BEHIND_4097, (0, 1), *more), ("raised", "InvalidMarking", {}))

    def test_workflows(self):
        wrong = [value for value in ODD if not plain.is_net(value) or plain.defects(value)]
        for function, more in self.FUNCTIONS:
            for value in wrong + [PILE, OVERLAP, APART, STILL, list(C)]:
                for marking in ((0, 0, 1), None):
                    self.assertEqual(outcome(function, value, marking, *more), ("raised", "InvalidWorkflow", {}), value)
            for workflow in (B, L, GROW, UNSOUND, FAULT_BEHIND_4096) + tuple(some(NOT_SOUND, 10, 448)):
                for marking in (plain.first(workflow), None):
                    result = outcome(function, workflow, marking, *more)
                    self.assertEqual(result[:2], ("raised", "NotSound"))
                    self.assertIs(is_structure_paper(workflow, result[2]["paper"]), True)
                    self.assertNotEqual(result[2]["paper"][0], "sound")

    def test_arguments_are_not_changed(self):
        for value in ([0, 0, 1], {(0, 0, 1): [1]}, ("run", ["begin"]), [["run"], ("begin",)]):
            before = copy_of(value)
            for function, more in self.FUNCTIONS:
                outcome(function, value, (0, 0, 1), *more)
                outcome(function, C, value, *more)
            is_occurrence_paper(C, (0, 0, 1), value)
            self.assertTrue(same(value, before))

    def test_equal_calls(self):
        for workflow in (A, C, F, D, P, chain(5)):
            for marking in some(plain_occurring.distances(workflow), 5, 449) + [(0,) * workflow[0]]:
                once = occurrence_paper(workflow, marking)
                self.assertTrue(same(once, occurrence_paper(copy_of(workflow), copy_of(marking))))


if __name__ == "__main__":
    unittest.main()
