"""Expansions of the entries of libraries."""

import unittest
from random import Random

from caseflow.library.library import expand, full_cost, is_library
from caseflow.nets.nets import is_workflow
from caseflow.readings.given import are_chances, are_costs
from caseflow.sound.papers import is_sound
from tests import plain_library
from tests.built import ladder
from tests.pools import SOUND, small
from tests.samples import A, B, C, D, F, L, P, chain, choices, copy_of, in_time, label, outcome, same
from tests.test_library import GO, SMALL, drawn_library, line

SECONDS = 10
PLACES, STEPS = [("raised", "TooMany", {"limit": limit}) for limit in (30, 40)]


def using(workflow, step, other, times):
    """Returns a library in which a step of the entry "a" stands for so many cases of the other workflow."""
    return (("a", workflow, None, None, ((step, "b", times),)), ("b", other, None, None, ()))


class Expansions(unittest.TestCase):

    def test_one_use(self):
        self.assertTrue(same(expand(using(GO, "go", GO, 1), "a"), (
            (4, (("aa", (0,), (2,)), ("ab", (2,), (3,)), ("ac", (3,), (1,)))), ((1, 1),) * 3, (1, 1, 0),
            (("go", 0), ("go", 1, "go"), ("go", 2)),
        )))

    def test_several_times(self):
        workflow, chances, costs, addresses = expand(using(P, "ship", P, 2), "a")
        self.assertTrue(same(workflow, (8, (
            ("aa", (0,), (2,)), ("ab", (0,), (2,)), ("ac", (2,), (3,)),
            ("ad", (3,), (6,)), ("ae", (3,), (6,)), ("af", (6,), (4,)),
            ("ag", (4,), (7,)), ("ah", (4,), (7,)), ("ai", (7,), (5,)), ("aj", (5,), (1,)),
        ))))
        half = (1, 2)
        self.assertTrue(same(chances, (half, half, (1, 1), half, half, (1, 1), half, half, (1, 1), (1, 1))))
        self.assertTrue(same(costs, (1, 1, 1, 1, 1, 1, 1, 1, 1, 0)))
        self.assertTrue(same(addresses, (
            ("card",), ("cash",), ("ship", 0), ("ship", 1, "card"), ("ship", 1, "cash"), ("ship", 1, "ship"),
            ("ship", 2, "card"), ("ship", 2, "cash"), ("ship", 2, "ship"), ("ship", 3),
        )))

    def test_several_uses(self):
        library = (("a", P, ((1, 3), (2, 3), (1, 1)), (4, 7, 2), (("card", "b", 1), ("cash", "b", 2), ("ship", "c", 1))),
                   ("b", GO, None, (5,), ()), ("c", C, None, None, ()))
        workflow, chances, costs, addresses = expand(library, "a")
        # The joints are 3 and 4, then 5 to 7, then 8 and 9; place 10 is that of the loop.
        self.assertTrue(same(workflow, (11, (
            ("aa", (0,), (3,)), ("ab", (3,), (4,)), ("ac", (4,), (2,)),
            ("ad", (0,), (5,)), ("ae", (5,), (6,)), ("af", (6,), (7,)), ("ag", (7,), (2,)),
            ("ah", (2,), (8,)), ("ai", (10,), (10,)), ("aj", (8,), (10,)), ("ak", (10,), (9,)), ("al", (9,), (1,)),
        ))))
        self.assertTrue(same(costs, (4, 5, 0, 7, 5, 5, 0, 2, 1, 1, 1, 0)))
        self.assertTrue(same(chances[:4], ((1, 3), (1, 1), (1, 1), (2, 3))))
        self.assertEqual(addresses[3:7], (("cash", 0), ("cash", 1, "go"), ("cash", 2, "go"), ("cash", 3)))

    def test_uses_within_uses(self):
        three = line(3)
        workflow, chances, costs, addresses = expand(three, "eaa")
        self.assertTrue(same(addresses, (
            ("go", 0), ("go", 1, "go", 0), ("go", 1, "go", 1, "go"), ("go", 1, "go", 2), ("go", 2),
        )))
        self.assertTrue(same(costs, (1, 1, 7, 0, 0)))
        self.assertTrue(same(workflow, (6, (
            ("aa", (0,), (2,)), ("ab", (2,), (4,)), ("ac", (4,), (5,)), ("ad", (5,), (3,)), ("ae", (3,), (1,)),
        ))))
        self.assertTrue(same(expand(three, "eac"), ((2, (("aa", (0,), (1,)),)), ((1, 1),), (7,), (("go",),))))

    def test_no_uses(self):
        for workflow in (F, C, P, A, D, B, L, chain(29), choices(40)):
            library = (("only", workflow, None, None, ()),)
            found, chances, costs, addresses = expand(library, "only")
            steps = workflow[1]
            expected = (workflow[0], tuple((label(at), step[1], step[2]) for at, step in enumerate(steps)))
            self.assertTrue(same(found, expected))
            self.assertTrue(same(addresses, tuple((step[0],) for step in steps)))
            self.assertTrue(same(costs, (1,) * len(steps)))
            self.assertIs(are_chances(found, chances), True)

    def test_names_go_on(self):
        # 2 + 9 * 4 = 38 steps and one of its own.
        library = using(P, "card", (2, choices(4)[1]), 9)
        workflow, _, _, addresses = expand(library, "a")
        names = [step[0] for step in workflow[1]]
        self.assertEqual(len(names), 40)
        self.assertEqual([names[0], names[25], names[26], names[27], names[39]], ["aa", "az", "ba", "bb", "bn"])
        self.assertEqual(names, sorted(names))
        self.assertEqual(list(addresses), sorted(addresses))
        self.assertEqual(addresses[-3:], (("card", 10), ("cash",), ("ship",)))

    def test_compared(self):
        for library, name in SMALL:
            result = expand(library, name)
            self.assertTrue(same(result, plain_library.expand(library, name)), (library, name))
            workflow, chances, costs, _ = result
            self.assertIs(is_workflow(workflow), True)
            self.assertIs(are_chances(workflow, chances), True)
            self.assertIs(are_costs(workflow, costs), True)
            self.assertIs(is_sound(workflow), True)

    def test_soundness(self):
        """The expansion is sound exactly if all workflows that are used are sound."""
        chance = Random(411)
        workflows = [workflow for workflow in small(SOUND, 5) if len(workflow[1]) <= 6] + [B, L, GO, C, P]
        both = {True: 0, False: 0}
        for _ in range(150):
            library = drawn_library(chance, [chance.choice(workflows), chance.choice((B, L, GO)), GO], 3, 2)
            for name, *_ in library:
                result = outcome(expand, library, name)
                if result[0] == "returned":
                    self.assertTrue(same(result[1], plain_library.expand(library, name)))
                    used = plain_library.used(library, name) + (name,)
                    sound = all(is_sound(plain_library.entry_of(library, other)[1]) for other in used)
                    self.assertIs(is_sound(result[1][0]), sound, (library, name))
                    both[sound] += 1
        self.assertGreater(min(both.values()), 20)


class Limits(unittest.TestCase):

    def test_places(self):
        # Two places of its own, times + 1 joints, and one more place in each copy.
        for times, result in ((13, "returned"), (14, PLACES)):
            library = using(GO, "go", chain(2), times)
            self.assertEqual(plain_library.sizes(library, "a"), (3 + 2 * times, 2 + 2 * times))
            found = outcome(expand, library, "a")
            self.assertEqual(found[0] if result == "returned" else found, result)
        # Exactly thirty places, and one more.
        for steps, places in ((27, 30), (28, 31)):
            library = using(GO, "go", chain(steps), 1)
            self.assertEqual(plain_library.sizes(library, "a")[0], places)
            found = outcome(expand, library, "a")
            self.assertEqual(found[0] if places == 30 else found, "returned" if places == 30 else PLACES)
        self.assertEqual(outcome(expand, (("a", chain(29), None, None, ()),), "a")[0], "returned")

    def test_steps(self):
        for many, result in ((38, "returned"), (39, STEPS)):
            library = using(GO, "go", choices(many), 1)
            self.assertEqual(plain_library.sizes(library, "a"), (4, 2 + many))
            found = outcome(expand, library, "a")
            self.assertEqual(found[0] if result == "returned" else found, result)
        self.assertEqual(outcome(expand, using(choices(40), "aa", GO, 1), "a"), STEPS)

    def test_both(self):
        library = using(GO, "go", choices(2), 28)
        self.assertEqual(plain_library.sizes(library, "a"), (31, 58))
        self.assertEqual(outcome(expand, library, "a"), PLACES)
        library = using(GO, "go", choices(2), 27)
        self.assertEqual(plain_library.sizes(library, "a"), (30, 56))
        self.assertEqual(outcome(expand, library, "a"), STEPS)
        self.assertEqual(outcome(expand, using(ladder(20), "laa", ladder(20), 1), "a"), PLACES)

    def test_far_too_many(self):
        twelve = line(12, 10 ** 30)
        self.assertIs(is_library(twelve), True)
        for at in range(11):
            self.assertEqual(in_time(SECONDS, lambda: outcome(expand, twelve, twelve[at][0])), PLACES)
        self.assertEqual(outcome(expand, twelve, "eal")[0], "returned")
        many = "abcdefghijkl"
        library = tuple(
            (name, choices(40), None, None, tuple((label(at), many[k + 1], 10 ** 30) for at in range(40)))
            for k, name in enumerate(many[:-1])
        ) + (("l", choices(40), None, None, ()),)
        self.assertEqual(in_time(SECONDS, lambda: outcome(expand, library, "a")), PLACES)
        self.assertEqual(in_time(SECONDS, lambda: outcome(expand, library, "k")), PLACES)
        self.assertEqual(in_time(SECONDS, lambda: outcome(full_cost, library, "a"))[0], "returned")

    def test_errors_come_first(self):
        large = using(GO, "go", choices(2), 28)
        self.assertEqual(outcome(expand, large[:1], "a"), ("raised", "InvalidLibrary", {}))
        self.assertEqual(outcome(expand, large, "c"), ("raised", "UnknownName", {"name": "c"}))
        self.assertEqual(outcome(expand, large, "b")[0], "returned")

    def test_what_is_passed_does_not_change(self):
        for library, name in SMALL[:20]:
            before = copy_of(library)
            once = expand(library, name)
            self.assertTrue(same(library, before))
            self.assertTrue(same(once, expand(before, name)))


if __name__ == "__main__":
    unittest.main()
