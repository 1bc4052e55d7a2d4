"""Editions: gaps, covers, and markings that are moved."""

import unittest
from random import Random

from caseflow.editions.editions import cover, edition_gap, first_unmovable, is_cover, moved_marking
from caseflow.sound.papers import is_structure_paper
from tests import plain, plain_algebra, plain_editions, plain_occurring, plain_terms
from tests.built import (
    END_BEHIND_4096, END_BEHIND_4097, EXACTLY_257, FAULT_BEHIND_4096, GROW, MARKINGS_4096, MARKINGS_4097, UNSOUND,
)
from tests.pools import LATE, LOOPS, NOT_SOUND, SOUND, TWINS, small, some
from tests.samples import (
    A, APART, B, C, D, F, L, ODD, OVERLAP, P, PILE, STILL, chain, copy_of, in_time, outcome, same, variants,
)

TOO_MANY = ("raised", "TooMany", {"limit": 4096})
SECONDS = 20
O = (3, (("begin", (0,), (2,)), ("stop", (2,), (1,))))
# The same steps as those of O, but "stop" is not the end.
O_AND_MORE = (4, (("begin", (0,), (2,)), ("more", (3,), (1,)), ("stop", (2,), (3,))))


def with_name(workflow, old, new):
    """Returns the workflow in which a step has another name."""
    return (workflow[0], tuple(sorted((new if step[0] == old else step[0],) + step[1:] for step in workflow[1])))


def without_step(workflow, at):
    """Returns the net without the step at this position."""
    return (workflow[0], workflow[1][:at] + workflow[1][at + 1:])


def is_sound(net):
    return net[1] != () and plain.defects(net) == () and plain_algebra.is_sound(net)


def drawn_pairs(many, seed):
    """Returns pairs of sound workflows; in many of them one covers the other one."""
    chance = Random(seed)
    found = []
    pool = small(SOUND, 7)
    while len(found) < many:
        new = chance.choice(pool)
        kind = chance.choice(("less", "more", "other", "name", "numbers", "same"))
        less = without_step(new, chance.randrange(len(new[1])))
        old = new
        if kind in ("less", "more") and is_sound(less):
            old = less
        if kind == "other":
            old = chance.choice(pool)
        if kind == "name":
            old = with_name(new, chance.choice(new[1])[0], "zz")
        if kind == "numbers":
            old = plain_terms.renumbered(chance, new)
        found.append((new, old) if kind == "more" else (old, new))
    return found


PAIRS = drawn_pairs(150, 451) + [
    (C, O), (O, C), (P, C), (F, F), (D, D), (A, A), (LOOPS, LOOPS), (O, O_AND_MORE), (O_AND_MORE, O), (TWINS, TWINS),
    (LATE, LATE), (with_name(C, "again", "back"), C), (P, without_step(P, 0)), (without_step(P, 0), P),
]


class Gaps(unittest.TestCase):

    def test_compared_with_a_search(self):
        kinds = {"none": 0, "step": 0, "end": 0}
        for old, new in PAIRS:
            length, pairs = plain_editions.search(old, new)
            gap = edition_gap(old, new)
            if length is None:
                self.assertIsNone(gap, (old, new))
                self.assertTrue(same(cover(old, new), tuple(sorted(pairs))))
                kinds["none"] += 1
            else:
                self.assertIs(plain_editions.is_gap(old, new, gap), True, (old, new, gap))
                self.assertEqual(len(gap), length)
                self.assertIsNone(cover(old, new))
                kinds["end" if type(plain.follow(new, gap, plain.first(new))) is list else "step"] += 1
        self.assertGreater(min(kinds.values()), 2)

    def test_compared_with_all_runs(self):
        for old, new in some(PAIRS, 60, 452):
            gap = edition_gap(old, new)
            for length in range(6):
                gaps = [run for run in plain.runs(old, length) if plain_editions.is_gap(old, new, run)]
                if gap is not None and len(gap) == length:
                    self.assertIn(gap, gaps)
                    break
                self.assertEqual(gaps, [], (old, new))

    def test_some(self):
        self.assertEqual(edition_gap(O, O_AND_MORE), ("begin", "stop"))
        self.assertEqual(edition_gap(O_AND_MORE, O), ("begin", "stop", "more"))
        self.assertIn(edition_gap(P, C), (("card",), ("cash",)))
        # Other places, and more of them, do not matter.
        longer = (4, (("begin", (0,), (3,)), ("stop", (3,), (1,)), ("zz", (2,), (1,)), ("zzz", (3,), (2,))))
        self.assertEqual(edition_gap(O, longer), None)
        self.assertEqual(cover(O, longer), (
            ((0, 0, 1), (0, 0, 0, 1)), ((0, 1, 0), (0, 1, 0, 0)), ((1, 0, 0), (1, 0, 0, 0))))


class Covers(unittest.TestCase):

    def test_covers_with_one_thing_otherwise(self):
        chance = Random(453)
        right = 0
        for old, new in some([pair for pair in PAIRS if edition_gap(*pair) is None], 40, 454) + [(O, C), (C, C)]:
            found = cover(old, new)
            tried = [found, found[::-1], found + found[:1], list(found), found + ((),)]
            for at in range(len(found)):
                tried.append(found[:at] + found[at + 1:])
            for _ in range(10):
                pair = tuple(tuple(chance.choice((0, 0, 1, 2)) for _ in range(net[0])) for net in (old, new))
                tried += [tuple(sorted(set(found) | {pair})), found + (pair,)]
                at = chance.randrange(len(found))
                tried.append(tuple(sorted(found[:at] + (pair,) + found[at + 1:])))
                tried.append(tuple(sorted(found[:at] + ((found[at][0], pair[1]),) + found[at + 1:])))
            for value in tried:
                expected = plain_editions.is_cover(old, new, value)
                self.assertIs(is_cover(old, new, value), expected, (old, new, value))
                right += expected
        self.assertGreater(right, 60)

    def test_larger_covers(self):
        # Pairs to which no run leads are allowed, if all that can be done there is there, too.
        found = cover(O, C)
        more = ((0, 0, 2), (0, 0, 2)), ((0, 1, 1), (0, 1, 1)), ((0, 2, 0), (0, 2, 0))
        self.assertIs(is_cover(O, C, tuple(sorted(found + more))), True)
        self.assertIs(is_cover(O, C, tuple(sorted(found + more[:2]))), False)
        self.assertIs(is_cover(O, C, tuple(sorted(found + (((0, 1, 0), (0, 0, 1)),)))), False)
        self.assertIs(is_cover(O, C, tuple(sorted(found + (((0, 1, 0), (0, 2, 0)),)))), False)
        self.assertIs(is_cover(O, C, tuple(sorted(found + (((0, 0, 0), (0, 2, 5)),)))), True)
        most = 10 ** 9
        self.assertIs(is_cover(O, C, tuple(sorted(found + (((0, most, 0), (0, most, 0)),)))), True)
        self.assertIs(is_cover(O, C, tuple(sorted(found + (((0, most, 1), (0, most, 1)),)))), False)
        self.assertIs(is_cover(O, C, tuple(sorted(found + (((0, most + 1, 0), (0, most, 0)),)))), False)
        # There is none if there is a gap.
        self.assertIs(is_cover(C, O, cover(C, C)), False)

    def test_every_value(self):
        found = cover(O, C)
        for value in list(variants(found))[::2] + list(ODD) + ["x" * 100000, "\x00", dict(found), [list(p) for p in found]]:
            self.assertIs(is_cover(O, C, value), plain_editions.is_cover(O, C, value), value)
        self.assertIs(is_cover(O, C, (found[0], found[1], ((True, 0, 0), (1, 0, 0)))), False)


class Moved(unittest.TestCase):

    def places(self, chance, old, new):
        """Returns places, some of them None, which move most markings to ones that occur if the workflows are equal."""
        kind = chance.choice(("number", "any", "none"))
        found = []
        for place in range(old[0]):
            same_place = place if place < new[0] else None
            found.append(same_place if chance.random() < 0.8 else chance.choice((None, chance.randrange(new[0]))))
        return None if kind == "none" else tuple(found)

    def test_compared(self):
        chance = Random(455)
        results = {True: 0, False: 0}
        for old, new in PAIRS:
            for _ in range(3):
                places = self.places(chance, old, new)
                markings, movable = plain_editions.movable(old, new, places)
                expected = [marking for marking in markings if marking not in movable]
                found = first_unmovable(old, new, places=places)
                self.assertTrue(same(found, expected[0] if expected else None), (old, new, places))
                results[found is None] += 1
                tried = some(markings, 3, 456) + [tuple(chance.randint(0, 3) for _ in range(old[0]))]
                for marking in tried:
                    moved = plain_editions.moved(old, new, marking, places)
                    self.assertTrue(same(moved_marking(old, new, marking, places=places), moved))
        self.assertGreater(min(results.values()), 50)

    def test_numbers_of_places(self):
        self.assertEqual(moved_marking(C, F, (0, 0, 1)), (0, 0, 1, 0, 0, 0, 0))
        self.assertEqual(moved_marking(F, C, (0, 0, 1, 0, 0, 0, 0)), (0, 0, 1))
        self.assertEqual(moved_marking(F, C, (0, 0, 0, 1, 0, 0, 0)), None)
        self.assertEqual(moved_marking(F, C, (0, 0, 0, 0, 0, 0, 0)), (0, 0, 0))
        self.assertEqual(first_unmovable(C, F), (0, 0, 1))
        self.assertEqual(first_unmovable(F, F), None)
        self.assertEqual(first_unmovable(F, F, places=(0, 1, 2, 3, 4, 5, 6)), None)
        self.assertEqual(first_unmovable(F, F, places=(None,) * 7), (0, 0, 0, 0, 0, 1, 1))

    def test_too_many_tokens(self):
        most = 10 ** 9
        for marking, places, expected in (
            ((0, most, 0), None, (0, most, 0)), ((0, most, 1), (0, 1, 1), None), ((1, 0, most - 1), (2, 1, 2), (0, 0, most)),
            ((1, 0, most), (2, 1, 2), None), ((most, most, most), (0, 0, 0), None),
            ((most, most, most), (2, 1, 0), (most, most, most)),
        ):
            result = outcome(moved_marking, C, O, marking, places=places)
            if expected is None:
                self.assertEqual(result, ("raised", "InvalidMarking", {}), (marking, places))
            else:
                self.assertTrue(same(result, ("returned", expected)), (marking, places))
        # It cannot be moved at all.
        self.assertEqual(moved_marking(C, O, (most, most, 1), places=(0, 0, None)), None)
        self.assertEqual(moved_marking(C, O, (most, most, 0), places=(0, 1, None)), (most, most, 0))


class Limits(unittest.TestCase):

    def test_pairs_of_a_cover(self):
        other = plain_terms.renumbered(Random(457), MARKINGS_4096)
        for new in (MARKINGS_4096, other):
            self.assertIsNone(in_time(SECONDS, lambda: edition_gap(MARKINGS_4096, new)))
            found = in_time(SECONDS, lambda: cover(MARKINGS_4096, new))
            self.assertEqual(len(found), 4096)
            self.assertEqual(list(found), sorted(found))
            self.assertIs(is_cover(MARKINGS_4096, new, found), True)
            self.assertIs(is_cover(MARKINGS_4096, new, found[1:]), False)
        for function in (edition_gap, cover):
            self.assertEqual(in_time(SECONDS, lambda: outcome(function, MARKINGS_4097, MARKINGS_4097)), TOO_MANY)

    def test_pairs_before_a_gap(self):
        for old, many in ((END_BEHIND_4096, 4096), (END_BEHIND_4097, 4097)):
            last = [step[0] for step in old[1] if step[2] == (1,)][0]
            new = with_name(old, last, "zz")
            length, pairs = plain_editions.search(old, new)
            self.assertEqual(len(pairs), many)
            for function in (edition_gap, cover):
                result = in_time(SECONDS, lambda: outcome(function, old, new))
                if many == 4097:
                    self.assertEqual(result, TOO_MANY)
                elif function == edition_gap:
                    self.assertEqual(len(result[1]), length)
                    self.assertIs(plain_editions.is_gap(old, new, result[1]), True)
                else:
                    self.assertEqual(result, ("returned", None))

    def test_pairs_before_an_end(self):
        # The last step is done in both, but it is the end in the old workflow only.
        old = END_BEHIND_4096
        places = old[0]
        steps = [step if step[2] != (1,) else (step[0], step[1], (places,)) for step in old[1]]
        new = (places + 1, tuple(steps) + (("zz", (places,), (1,)),))
        length, pairs = plain_editions.search(old, new)
        self.assertEqual([places, len(pairs)], [29, 4096])
        gap = in_time(SECONDS, lambda: edition_gap(old, new))
        self.assertEqual(len(gap), length)
        self.assertIs(plain_editions.is_gap(old, new, gap), True)
        self.assertIs(plain.follow(new, gap, plain.first(new))[-1] == plain.last(new), False)
        # The other way round it is one step more, and one pair more.
        self.assertEqual(in_time(SECONDS, lambda: outcome(edition_gap, new, old)), TOO_MANY)

    def test_early_gaps(self):
        # A gap that comes early is found in workflows of any size.
        first = END_BEHIND_4097[1][0][0]
        self.assertEqual(edition_gap(END_BEHIND_4097, with_name(END_BEHIND_4097, first, "zz")), (first,))

    def test_occurring_markings(self):
        for places in (None, tuple(range(MARKINGS_4096[0]))):
            result = in_time(SECONDS, lambda: first_unmovable(MARKINGS_4096, MARKINGS_4096, places=places))
            self.assertIsNone(result)
        self.assertEqual(in_time(SECONDS, lambda: outcome(first_unmovable, MARKINGS_4097, MARKINGS_4097)), TOO_MANY)
        self.assertEqual(outcome(first_unmovable, MARKINGS_4097, C), TOO_MANY)
        self.assertEqual(first_unmovable(C, MARKINGS_4097, places=(0, 1, 0)), None)
        self.assertEqual(moved_marking(MARKINGS_4097, C, plain.first(MARKINGS_4097)), (1, 0, 0))


class Errors(unittest.TestCase):

    # Each function with the values of its parameters behind the workflows, and its keywords.
    FUNCTIONS = (
        (edition_gap, (), {}), (cover, (), {}), (is_cover, ((),), {}),
        (moved_marking, ((0, 0, 1),), {"places": (0, 1, 2)}), (first_unmovable, (), {"places": (0, 1, 2)}),
    )
    WRONG = {moved_marking: ((None,), {"places": None}), first_unmovable: ((), {"places": ()})}

    def test_right_values(self):
        for function, args, more in self.FUNCTIONS:
            self.assertEqual(outcome(function, C, O, *args, **more)[0], "returned")

    def test_workflows(self):
        wrong = [value for value in ODD if not plain.is_net(value) or plain.defects(value)]
        wrong += [PILE, OVERLAP, APART, STILL, list(C)]
        for function, args, more in self.FUNCTIONS:
            args, more = self.WRONG.get(function, (args, more))
            for value in wrong:
                for other in (C, B, None, value):
                    self.assertEqual(outcome(function, value, other, *args, **more), ("raised", "InvalidWorkflow", {}))
                self.assertEqual(outcome(function, C, value, *args, **more), ("raised", "InvalidWorkflow", {}), value)

    def test_not_sound(self):
        for function, args, more in self.FUNCTIONS:
            args, more = self.WRONG.get(function, (args, more))
            for workflow in (B, L, GROW, UNSOUND, FAULT_BEHIND_4096) + tuple(some(NOT_SOUND, 5, 458)):
                # The first workflow comes first, whatever is wrong with the second one.
                for one, other in ((workflow, C), (workflow, None), (workflow, L), (workflow, B), (C, workflow)):
                    result = outcome(function, one, other, *args, **more)
                    self.assertEqual(result[:2], ("raised", "NotSound"), (function, one, other))
                    self.assertIs(is_structure_paper(workflow, result[2]["paper"]), True)
                    self.assertNotEqual(result[2]["paper"][0], "sound")
                self.assertEqual(
                    outcome(function, None, workflow, *args, **more), ("raised", "InvalidWorkflow", {}))

    def test_markings(self):
        for value in list(ODD) + list(variants((0, 0, 1)))[::3]:
            for places in (None, (0, 1, 2), (0,), 5):
                result = outcome(moved_marking, C, O, value, places=places)
                if not plain.is_marking(C, value):
                    self.assertEqual(result, ("raised", "InvalidMarking", {}), value)
                elif places in ((0,), 5):
                    self.assertEqual(result, ("raised", "InvalidPlaces", {}), value)

    def test_places(self):
        right = (0, None, 2)
        for value in list(ODD) + list(variants(right)) + [(0, 1), (0, 1, 2, None), (0, 1, 3), (0, 1, -1), [0, 1, 2]]:
            expected = value is None or plain_editions.are_places(C, O, value)
            for function, args in ((moved_marking, ((0, 0, 1),)), (first_unmovable, ())):
                result = outcome(function, C, O, *args, places=value)
                self.assertEqual(result[0] if expected else result, "returned" if expected else (
                    "raised", "InvalidPlaces", {}), value)
        # It is looked at before the markings are.
        self.assertEqual(
            outcome(first_unmovable, MARKINGS_4097, C, places=(0, 1, 2)), ("raised", "InvalidPlaces", {}))
        for old, new in ((C, F), (F, C)):
            for places in ((0,) * old[0], (None,) * old[0], (new[0] - 1,) * old[0]):
                self.assertEqual(outcome(moved_marking, old, new, plain.first(old), places=places)[0], "returned")
            for places in ((0,) * new[0], (new[0],) * old[0], (True,) * old[0]):
                self.assertEqual(outcome(moved_marking, old, new, plain.first(old), places=places)[:2], (
                    "raised", "InvalidPlaces"))

    def test_arguments_are_not_changed(self):
        for value in ([0, 0, 1], {(0, 0, 1): [1]}, [[C], [O]], ((0, 0, 1), [0])):
            before = copy_of(value)
            for function, args, more in self.FUNCTIONS:
                outcome(function, value, C, *args, **more)
                outcome(function, C, value, *args, **more)
                outcome(function, C, O, *[value for _ in args], **{name: value for name in more})
                self.assertTrue(same(value, before))
        for old, new in some(PAIRS, 20, 459) + [(EXACTLY_257, chain(3)), (P, D)]:
            self.assertTrue(same(edition_gap(old, new), edition_gap(copy_of(old), copy_of(new))))


if __name__ == "__main__":
    unittest.main()
