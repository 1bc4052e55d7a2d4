"""Soundness and structure papers."""

import unittest
from random import Random

from caseflow.algebra.weightings import growing_counts, positive_counts, positive_weighting, rising_weights
from caseflow.sound.papers import is_sound, is_structure_paper, structure_paper
from tests import plain, plain_algebra, plain_cases, pools
from tests.built import (
    EXACTLY_256, EXACTLY_257, FAULT_BEHIND_4096, GROW, LOOP_OF_100, PAIRS_4096, TOGETHER, TWICE, UNSOUND, around,
    branches, ladder, led_to, rhombs,
)
from tests.pools import small, some
from tests.randoms import nearly_sound, random_sound, random_workflows
from tests.samples import APART, B, C, D, F, L, ODD, P, PILE, chain, choices, in_time, outcome, same, wide

SECONDS = 20
# All siphons of these are looked at.
SOUND = small(pools.SOUND, 8)
NOT_SOUND = small(pools.NOT_SOUND, 8)
# Every kind of paper against a workflow is found for one of these.
SIPHON = led_to(F, "join", (1, 2))
FORK = (5, (("fork", (0,), (2, 3)), ("join", (2, 3), (4,)), ("more", (4,), (2, 3)), ("stop", (4,), (1,))))
# The two branches choose, but they must choose the same.
MIXED = (8, (("a", (0,), (2, 3)), ("b", (2,), (4,)), ("c", (2,), (5,)), ("d", (3,), (6,)), ("e", (3,), (7,)),
             ("f", (4, 6), (1,)), ("g", (5, 7), (1,))))
# Neither the rank nor a siphon speaks against this one, but tokens become more and more.
MORE = (6, (("aa", (0,), (5,)), ("ab", (2,), (1, 5)), ("ac", (3,), (1, 4)), ("ad", (5,), (2, 4)), ("ae", (4,), (3, 4))))
# No step puts the first token on place 3.
AT_ONCE = (4, (("a", (0,), (2,)), ("b", (2, 3), (1, 3))))


def opposing(workflow):
    """Returns papers against the workflow, as far as there are such."""
    found = []
    rank = len(plain_algebra.echelon(plain_algebra.effects(workflow))[1])
    number = len(plain_algebra.groups(workflow))
    if rank != number:
        found.append(("rank", rank, number))
    if growing_counts(workflow) is not None:
        found.append(("growth", growing_counts(workflow)))
    if rising_weights(workflow) is not None:
        found.append(("rise", rising_weights(workflow)))
    return found


def with_entry(vector, at, entry):
    return vector[:at] + (entry,) + vector[at + 1:]


class IsSound(unittest.TestCase):

    def test_small_workflows(self):
        pool = SOUND + NOT_SOUND + tuple(random_workflows(300, 3, 4) + random_workflows(200, 5, 5))
        found = [is_sound(workflow) for workflow in pool]
        self.assertEqual(found, [plain_algebra.is_sound(workflow) for workflow in pool])
        self.assertGreater(found.count(True), 200)
        self.assertGreater(found.count(False), 500)

    def test_large_workflows(self):
        sound = [EXACTLY_256, EXACTLY_257, LOOP_OF_100, PAIRS_4096, branches((2,) * 7, 0), branches((6, 6, 6), 0),
                 chain(29), ladder(20), rhombs(9), choices(40), around(branches((2,) * 5, 2))] + random_sound(20, 5)
        for workflow in sound:
            self.assertIs(in_time(SECONDS, lambda: is_sound(workflow)), True)
            self.assertEqual(structure_paper(workflow)[0], "sound")
        for workflow in [UNSOUND, FAULT_BEHIND_4096, wide(28), wide(20)] + nearly_sound(30, 5):
            result = in_time(SECONDS, lambda: is_sound(workflow))
            if workflow in (UNSOUND, FAULT_BEHIND_4096) or workflow[1][0][0] == "fork":
                self.assertIs(result, False)
            self.assertIs(structure_paper(workflow)[0] == "sound", result)

    def test_large_ones_that_are_not_sound(self):
        for numbers in ((2,) * 7, (6, 6, 6)):
            places, steps = branches(numbers, 0)
            for name, _, outputs in steps:
                if name.startswith("x"):
                    self.assertIs(in_time(SECONDS, lambda: is_sound(led_to((places, steps), name, (1,)))), False)

    def test_no_workflow(self):
        for value in list(ODD) + [PILE, APART, list(C), (3, list(C[1]))]:
            if not plain.is_workflow(value):
                for call in (is_sound, structure_paper):
                    self.assertEqual(outcome(call, value), ("raised", "InvalidWorkflow", {}), value)
                for paper in (("rank", 4, 3), None, ("siphon", (1,)), [], "sound"):
                    self.assertEqual(outcome(is_structure_paper, value, paper), ("raised", "InvalidWorkflow", {}))


class StructurePaper(unittest.TestCase):

    def test_small_workflows(self):
        kinds = set()
        for workflow in some(SOUND, 80, 1) + some(NOT_SOUND, 150, 2) + [SIPHON, FORK, TOGETHER, MORE]:
            paper = structure_paper(workflow)
            kinds.add(paper[0])
            self.assertIs(paper[0] == "sound", plain_algebra.is_sound(workflow), workflow)
            self.assertIs(plain_cases.is_paper(workflow, paper), True, (workflow, paper))
            self.assertIs(is_structure_paper(workflow, paper), True, (workflow, paper))
            self.assertTrue(same(paper, structure_paper(workflow)))
        self.assertEqual(sorted(kinds), ["growth", "rank", "siphon", "sound"])

    def test_large_workflows(self):
        for workflow in [EXACTLY_257, UNSOUND, FAULT_BEHIND_4096, wide(28), LOOP_OF_100] + nearly_sound(20, 5):
            self.assertIs(is_structure_paper(workflow, structure_paper(workflow)), True)


class IsStructurePaper(unittest.TestCase):

    def agree(self, workflow, value):
        expected = plain_cases.is_paper(workflow, value)
        self.assertIs(is_structure_paper(workflow, value), expected, (workflow, value))
        return expected

    def test_of_each_kind(self):
        kinds = {}
        for workflow in some(SOUND, 60, 3) + some(NOT_SOUND, 120, 4) + [B, L, GROW, TWICE, SIPHON]:
            papers = opposing(workflow) + [structure_paper(workflow)]
            for paper in papers:
                self.assertIs(self.agree(workflow, paper), True)
                kinds[paper[0]] = kinds.get(paper[0], 0) + 1
        self.assertEqual(sorted(kinds), ["growth", "rank", "rise", "siphon", "sound"])
        self.assertGreater(min(kinds.values()), 10)

    def test_all_siphons(self):
        found = 0
        for workflow in some(NOT_SOUND, 40, 5) + some(SOUND, 20, 6) + [B, SIPHON]:
            for places in plain_algebra.sets_of(range(workflow[0])) + [(workflow[0],), (-1,)]:
                found += self.agree(workflow, ("siphon", places))
        self.assertGreater(found, 10)
        self.assertIs(is_structure_paper(B, ("siphon", (0, 1, 3))), False)
        self.assertIs(is_structure_paper(SIPHON, ("siphon", ())), False)

    def test_many_times_as_great(self):
        for workflow in (B, L, GROW, TWICE, C, F, D) + tuple(some(NOT_SOUND, 30, 7)):
            for paper in opposing(workflow):
                if paper[0] != "rank":
                    for times in (2, 10 ** 30):
                        self.assertIs(self.agree(workflow, (paper[0], tuple(times * k for k in paper[1]))), True)
                    for times in (0, -1):
                        self.assertIs(self.agree(workflow, (paper[0], tuple(times * k for k in paper[1]))), False)
        for workflow in (C, F, D, P, TOGETHER) + tuple(some(SOUND, 20, 8)):
            _, weighting, counts = structure_paper(workflow)
            for one, other in ((2, 1), (1, 2), (10 ** 30, 1), (3, 10 ** 30), (0, 1), (1, 0), (-1, 1), (1, -1)):
                paper = ("sound", tuple(one * k for k in weighting), tuple(other * k for k in counts))
                self.assertIs(self.agree(workflow, paper), one > 0 and other > 0)

    def test_sums_of_papers(self):
        weighting, counts = positive_weighting(F), positive_counts(F)
        more = tuple(a + b for a, b in zip(counts, (0, 1, 1, 1, 1, 1, 1)))
        self.assertIs(self.agree(F, ("sound", weighting, more)), True)
        self.assertIs(self.agree(F, ("sound", (5, 5, 1, 4, 1, 1, 4), (1, 10 ** 40 + 1) + (10 ** 40,) * 5)), True)
        self.assertIs(self.agree(F, ("sound", (5, 5, 1, 4, 1, 1, 5), (1, 10 ** 40 + 1) + (10 ** 40,) * 5)), False)
        self.assertIs(self.agree(F, ("sound", (5, 5, 1, 4, 1, 1, 4), (1, 10 ** 40 + 1) + (10 ** 40,) * 4)), False)
        self.assertIs(self.agree(F, ("sound", (5, 5, 1, 4, 1, 1, 4), (10 ** 40, 10 ** 40 + 1, 1, 1, 1, 1, 1))), True)

    def test_one_entry_otherwise(self):
        chance = Random(13)
        right = 0
        for workflow in some(SOUND, 30, 9) + some(NOT_SOUND, 60, 10) + [B, L, F, D]:
            for paper in opposing(workflow) + [structure_paper(workflow)]:
                for part in range(1, len(paper)):
                    if isinstance(paper[part], tuple) and paper[part]:
                        at = chance.randrange(len(paper[part]))
                        for entry in (paper[part][at] + 1, paper[part][at] - 1, 0, chance.randint(-9, 9)):
                            right += self.agree(workflow, with_entry(paper, part, with_entry(paper[part], at, entry)))
                    elif isinstance(paper[part], int):
                        right += self.agree(workflow, with_entry(paper, part, paper[part] + chance.choice((-1, 1))))
        self.assertGreater(right, 20)

    def test_booleans(self):
        for workflow in (B, L, C, F, P, GROW, SIPHON):
            for paper in opposing(workflow) + [structure_paper(workflow)]:
                for part in range(1, len(paper)):
                    if isinstance(paper[part], int):
                        for entry in (True, False):
                            self.assertIs(is_structure_paper(workflow, with_entry(paper, part, entry)), False)
                        continue
                    for at, entry in enumerate(paper[part]):
                        changed = with_entry(paper, part, with_entry(paper[part], at, bool(entry)))
                        self.assertIs(is_structure_paper(workflow, changed), False, changed)

    def test_ranks(self):
        self.assertIs(is_structure_paper(L, ("rank", 4, 3)), True)
        for rank, number in ((3, 4), (4, 4), (3, 3), (5, 3), (4, 2), (True, 3), ("4", 3), (None, None), ((4,), (3,))):
            self.assertIs(is_structure_paper(L, ("rank", rank, number)), False)
        # The rank of F and the number of its clusters are equal.
        self.assertIs(is_structure_paper(F, ("rank", 5, 5)), False)
        self.assertIs(is_structure_paper(F, ("rank", 5, 6)), False)

    def test_not_sound_in_one_respect(self):
        # The vectors are right, but the rank or a siphon shows that the workflow is not sound.
        found = 0
        for workflow in pools.NOT_SOUND + tuple(random_workflows(600, 4, 6)):
            weighting, counts = positive_weighting(workflow), positive_counts(workflow)
            if weighting is not None and counts is not None and not plain_algebra.is_sound(workflow):
                found += 1
                self.assertIs(is_structure_paper(workflow, ("sound", weighting, counts)), False)
        self.assertGreater(found, 1)
        for workflow, kind in ((MIXED, "rank"), (AT_ONCE, "siphon")):
            vectors = (positive_weighting(workflow), positive_counts(workflow))
            self.assertNotIn(None, vectors)
            self.assertIs(self.agree(workflow, ("sound",) + vectors), False)
            self.assertEqual(structure_paper(workflow)[0], kind)

    def test_other_values(self):
        for workflow in (B, C, F):
            paper = structure_paper(workflow)
            for value in ODD + (
                (), ("sound",), ("sound", ()), ("rank",), ("rank", 4), ("growth",), ("rise", ()), ("siphon",),
                list(paper), paper + (None,), paper[:-1], paper[1:], (paper,), ("Sound",) + paper[1:],
                ("sound",) + paper[:0:-1], (paper[0], [paper[1]]) + paper[2:],
                ("sound", None, None), ("growth", None), ("rise", "text"), ("siphon", [1]), ("siphon", 1),
                ("siphon", (True,)), (["growth"], (1, 1, 1, 1)), ({}, ()), ((), (), ()), "x" * 100000,
                ("unbounded", (), (), ()), ("rank", 4, 3, 2), ("growth", (10 ** 5000,) * 4),
            ):
                self.agree(workflow, value)


if __name__ == "__main__":
    unittest.main()
