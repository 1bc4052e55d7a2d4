"""Libraries and the values of full cases."""

import unittest
from fractions import Fraction
from random import Random

from caseflow.library.library import (
    MAX_ENTRIES, MAX_TIMES, expand, full_cost, full_counts, full_greatest, full_least, full_variance, is_library,
    used_names,
)
from caseflow.nets.clusters import clusters
from caseflow.readings.chances import chances_of, cost_variance, expected_cost, expected_counts
from caseflow.readings.extremes import greatest_paper, least_paper
from caseflow.sound.papers import is_structure_paper
from tests import plain, plain_library, plain_readings
from tests.built import EXACTLY_256, EXACTLY_257, GROW, LOOP_OF_100, LOOP_OF_101, branches, ladder, rings
from tests.pools import LOOPS, SOUND, SPLIT, TWINS, small, some
from tests.samples import A, B, C, D, F, L, ODD, P, chain, choices, copy_of, in_time, label, outcome, same, variants

VALUES = (full_cost, full_variance, full_counts, full_least, full_greatest)
FUNCTIONS = (used_names,) + VALUES + (expand,)
K = (("buy", P, None, (4, 7, 2), ()), ("shop", C, None, None, (("begin", "buy", 10 ** 20),)))
GO = (2, (("go", (0,), (1,)),))
SECONDS = 20


def line(many, times=1):
    """Returns a library of so many entries, each of which uses the next one."""
    found = [("e" + label(k), GO, None, None, (("go", "e" + label(k + 1), times),)) for k in range(many - 1)]
    return tuple(found) + (("e" + label(many - 1), GO, None, (7,), ()),)


def with_uses(library, at, uses):
    """Returns the library in which the entry at this position has these uses."""
    return library[:at] + (library[at][:4] + (uses,),) + library[at + 1:]


def drawn_library(chance, workflows, entries, times):
    """Returns a library of so many entries, in any order of use, with small numbers of times."""
    names = ["u" + label(k) for k in range(entries)]
    chance.shuffle(names)
    found = []
    for at in range(entries):
        workflow = chance.choice(workflows)
        steps = [step[0] for step in workflow[1]]
        used = sorted(chance.sample(steps, min(len(steps), chance.randint(0, 2)))) if at else []
        uses = tuple((step, names[chance.randrange(at)], chance.randint(1, times)) for step in used)
        chances = chances_of(workflow, **{step: chance.randint(1, 5) for step in steps})
        costs = tuple(chance.choice((0, 1, chance.randint(0, 30))) for _ in steps)
        found.append((names[at], workflow, chance.choice((None, chances)), chance.choice((None, costs)), uses))
    return tuple(sorted(found))


def small_libraries(many, seed):
    """Returns pairs of a library and the name of an entry whose expansion can be written out."""
    chance = Random(seed)
    workflows = [workflow for workflow in small(SOUND, 6) if len(workflow[1]) <= 7] + [GO, C, P]
    found = []
    while len(found) < many:
        library = drawn_library(chance, workflows, chance.randint(1, 4), 3)
        for name, _, _, _, uses in library:
            places, steps = plain_library.sizes(library, name)
            if places <= 30 and steps <= 40 and (uses or chance.random() < 0.1):
                found.append((library, name))
    return found[:many]


SMALL = small_libraries(120, 401)


class Kinds(unittest.TestCase):

    def test_constants(self):
        self.assertTrue(same([MAX_ENTRIES, MAX_TIMES], [12, 10 ** 30]))

    def test_numbers_of_entries(self):
        for many in range(1, 13):
            self.assertIs(is_library(line(many)), True, many)
        for many in (13, 14, 40):
            self.assertIs(is_library(line(many)), False, many)
            self.assertEqual(outcome(used_names, line(many), "eaa"), ("raised", "InvalidLibrary", {}))
        self.assertIs(is_library(()), False)

    def test_order_of_entries(self):
        three = line(3)
        for value, expected in (
            (three, True), (three[::-1], False), (three[1:] + three[:1], False), (three + three[2:], False),
            (three[:1] + three, False), (three[:1] + three[2:], False), (three[1:], True), (three[2:], True),
            (three[:2], False), (list(three), False),
        ):
            self.assertIs(is_library(value), expected, value)
            self.assertIs(plain_library.is_library(value), expected)
        # The last entry uses the first one.
        self.assertIs(is_library((("a", GO, None, None, ()), ("b", GO, None, None, (("go", "a", 1),)))), True)

    def test_uses(self):
        two = (("a", P, None, None, ()), ("b", GO, None, None, ()))
        for uses, expected in (
            ((("card", "b", 1),), True), ((("card", "b", 1), ("cash", "b", 2), ("ship", "b", 3)), True),
            ((("card", "b", 1), ("card", "b", 2)), False), ((("card", "b", 1), ("card", "b", 1)), False),
            ((("cash", "b", 1), ("card", "b", 2)), False), ((("go", "b", 1),), False), ((("card", "c", 1),), False),
            ((("card", "a", 1),), False), ((("card", "b", 0),), False), ((("card", "b", -1),), False),
            ((("card", "b", 10 ** 30),), True), ((("card", "b", 10 ** 30 + 1),), False),
            ((("card", "b", True),), False), ((("card", "b", None),), False), ((("card", "b", "1"),), False),
            ((("card", "b"),), False), ((("card", "b", 1, 1),), False), (("card", "b", 1), False),
            ([("card", "b", 1)], False), ((["card", "b", 1],), False), (None, False), ((None,), False), ({}, False),
            (((None, "b", 1),), False), (((["card"], "b", 1),), False), ((("card", ["b"], 1),), False),
        ):
            value = with_uses(two, 0, uses)
            self.assertIs(is_library(value), expected, uses)
            self.assertIs(plain_library.is_library(value), expected, uses)
            result = outcome(used_names, value, "a")
            self.assertTrue(same(result, ("returned", ("b",)) if expected else ("raised", "InvalidLibrary", {})))

    def test_use_of_itself(self):
        for many in range(1, 13):
            library = line(many)
            for at in range(many):
                back = library[at][0]
                circle = with_uses(library, many - 1, (("go", back, 1),))
                self.assertIs(is_library(circle), False, (many, at))
                for function in FUNCTIONS:
                    self.assertEqual(outcome(function, circle, back), ("raised", "InvalidLibrary", {}))
        # Two ways to one entry are no circle.
        fork = (("a", C, None, None, (("again", "b", 1), ("begin", "c", 1))), ("b", GO, None, None, (("go", "c", 2),)),
                ("c", GO, None, None, ()))
        self.assertIs(is_library(fork), True)

    def test_workflows_chances_and_costs(self):
        for at, values in (
            (0, (("Buy", False), ("", False), ("buyagains", False), ("buyagain", True), (None, False), (("a",), False))),
            (1, ((B, True), (L, True), (GROW, True), ((2, ()), False), (None, False), (list(P), False), (A, False))),
            (2, ((((1, 2), (1, 2), (1, 1)), True), (((1, 3), (1, 2), (1, 1)), False), (((2, 4), (1, 2), (1, 1)), False),
                 (((1, 2), (1, 2)), False), (((1, 2), (1, 2), (True, 1)), False), ((), False), (False, False))),
            (3, (((0, 0, 0), True), ((0, 10 ** 9, 0), True), ((0, 10 ** 9 + 1, 0), False), ((0, -1, 0), False),
                 ((0, 0), False), ((0, 0, True), False), ([0, 0, 0], False), (0, False))),
        ):
            for value, expected in values:
                entry = K[0][:at] + (value,) + K[0][at + 1:]
                if at == 1 and value in (B, L, GROW):
                    entry = entry[:3] + (None,) + entry[4:]
                self.assertIs(is_library((entry,)), expected, (at, value))
                self.assertIs(plain_library.is_library((entry,)), expected, (at, value))

    def test_every_value(self):
        library = (("buy", GO, ((1, 1),), (4,), ()), ("shop", C, None, None, (("begin", "buy", 10 ** 20),)))
        for value in list(variants(library)) + list(ODD) + ["x" * 100000, "\x00", K, K[0]]:
            expected = plain_library.is_library(value)
            self.assertIs(is_library(value), expected, value)
        for value in list(variants(library))[::7] + list(ODD):
            if not plain_library.is_library(value):
                for function in FUNCTIONS:
                    for name in ("shop", None):
                        self.assertEqual(outcome(function, value, name), ("raised", "InvalidLibrary", {}), value)


class Names(unittest.TestCase):

    def test_used_names(self):
        twelve = line(12)
        for at in range(12):
            self.assertTrue(same(used_names(twelve, twelve[at][0]), tuple(entry[0] for entry in twelve[at + 1:])))
        chance = Random(402)
        for _ in range(60):
            library = drawn_library(chance, [GO, C, P, A, TWINS], chance.randint(1, 12), 10 ** 30)
            for entry in library:
                self.assertTrue(same(used_names(library, entry[0]), plain_library.used(library, entry[0])))

    def test_unknown_names(self):
        for name in ODD + ("card", "shops", "buy ", "Buy", ("buy",), ["buy"], {"buy": 1}, K, K[0]):
            for function in FUNCTIONS:
                result = outcome(function, K, name)
                self.assertEqual(result[:2], ("raised", "UnknownName"), (function, name))
                self.assertTrue(same(result[2], {"name": name}) or result[2]["name"] is name)

    def test_an_error_does_not_change(self):
        value = ["buy", ["a"]]
        result = outcome(full_cost, K, value)
        value[1].append("b")
        self.assertTrue(same(result[2]["name"], ["buy", ["a"]]))


class Values(unittest.TestCase):

    def test_compared_with_expansions(self):
        for library, name in SMALL:
            workflow, chances, costs, addresses = plain_library.expand(library, name)
            found = {"chances": chances, "costs": costs}
            self.assertTrue(same(full_cost(library, name), expected_cost(workflow, **found)), (library, name))
            self.assertTrue(same(full_variance(library, name), cost_variance(workflow, **found)), (library, name))
            self.assertTrue(same(full_least(library, name), least_paper(workflow, costs=costs)[0]))
            greatest = greatest_paper(workflow, costs=costs)
            expected = greatest[1] if greatest[0] == "greatest" else None
            self.assertTrue(same(full_greatest(library, name), expected), (library, name))
            sums = {}
            for address, count in zip(addresses, expected_counts(workflow, chances=chances)):
                pair = plain_library.origin(library, name, address)
                sums[pair] = sums.get(pair, 0) + Fraction(*count)
            sums.pop(None, None)
            expected = {pair: plain_readings.as_pair(sums[pair]) for pair in sorted(sums)}
            self.assertTrue(same(full_counts(library, name), expected), (library, name))

    def test_compared_with_plain_equations(self):
        for library, name in SMALL[::9]:
            workflow, chances, costs, _ = plain_library.expand(library, name)
            plan = plain_readings.met(workflow, range(len(clusters(workflow))))
            fractions = plain_readings.chances_of(workflow, chances)
            mean = plain_readings.values(workflow, plan, fractions, costs)[plain.first(workflow)]
            self.assertTrue(same(full_cost(library, name), plain_readings.as_pair(mean)))
            variance = plain_readings.variance(workflow, plan, fractions, costs)
            self.assertTrue(same(full_variance(library, name), plain_readings.as_pair(variance)))

    def test_entries_without_uses(self):
        for workflow in some(SOUND, 40, 403) + [F, D, LOOPS, SPLIT, TWINS]:
            costs = tuple(range(len(workflow[1])))
            library = (("alone", workflow, None, costs, ()),)
            self.assertTrue(same(full_cost(library, "alone"), expected_cost(workflow, costs=costs)))
            self.assertTrue(same(full_variance(library, "alone"), cost_variance(workflow, costs=costs)))
            self.assertTrue(same(full_least(library, "alone"), least_paper(workflow, costs=costs)[0]))
            counts = {("alone", step[0]): count for step, count in zip(workflow[1], expected_counts(workflow))}
            self.assertTrue(same(full_counts(library, "alone"), counts))

    def test_great_times(self):
        self.assertTrue(same(full_cost(K, "shop"), (15 * 10 ** 20 // 2 + 3, 1)))
        twelve = line(12, 10 ** 30)
        # Each entry has a step of cost 1, and 10 ** 30 cases of the next one.
        expected = 7
        for _ in range(11):
            expected = expected * 10 ** 30 + 1
        self.assertTrue(same(full_cost(twelve, "eaa"), (expected, 1)))
        self.assertTrue(same([full_least(twelve, "eaa"), full_greatest(twelve, "eaa")], [expected, expected]))
        self.assertTrue(same(full_variance(twelve, "eaa"), (0, 1)))
        counts = full_counts(twelve, "eaa")
        self.assertTrue(same(counts, {("e" + label(k), "go"): (10 ** (30 * k), 1) for k in range(12)}))
        # A case of "coin" costs 0 or 1; a choice gives no use at all half the time.
        coin = ("coin", choices(2), None, (0, 1), ())
        library = (coin, ("many", P, None, (0, 0, 0), (("card", "coin", 10 ** 30),)))
        times = 10 ** 30
        self.assertTrue(same(full_cost(library, "many"), (times // 4, 1)))
        # The mean of the squares is a half of times / 4 + (times / 2) ** 2.
        square = Fraction(times, 8) + Fraction(times, 2) ** 2 / 2
        self.assertTrue(same(
            full_variance(library, "many"), plain_readings.as_pair(square - Fraction(times, 4) ** 2)
        ))
        self.assertTrue(same([full_least(library, "many"), full_greatest(library, "many")], [0, times]))

    def test_lengths_of_fractions(self):
        chance = Random(404)
        for _ in range(20):
            library = drawn_library(chance, [C, P, A, TWINS, SPLIT], 6, 3)
            for name, *_ in library:
                great = tuple(
                    entry[:4] + (tuple((step, used, times * 10 ** 28) for step, used, times in entry[4]),)
                    for entry in library
                )
                for function in (full_cost, full_variance):
                    one, other = function(library, name), function(great, name)
                    # Each of at most five uses within one another gives at most twice 28 digits more.
                    digits = len(str(other[0])) - len(str(one[0]))
                    self.assertLess(digits, 5 * 2 * 28 + 20, function)
                    self.assertLess(len(str(other[1])), len(str(one[1])) + 20)

    def test_no_greatest_cost(self):
        loop = ("loop", C, None, None, ())
        for library, expected in (
            ((loop,), {"loop": None}),
            ((loop, ("other", GO, None, None, ())), {"loop": None, "other": 1}),
            ((loop, ("user", P, None, (0, 0, 0), (("card", "loop", 1),))), {"loop": None, "user": None}),
            ((("free", C, None, (0, 2, 3), ()), ("user", C, None, (0, 0, 0), (("stop", "free", 4),))),
             {"free": 5, "user": 20}),
            ((("free", C, None, (0, 2, 3), ()), ("user", C, None, (0, 0, 0), (("again", "free", 4),))),
             {"free": 5, "user": None}),
            ((("nothing", GO, None, (0,), ()), ("user", C, None, (0, 1, 0), (("again", "nothing", 9),))),
             {"nothing": 0, "user": 1}),
            ((loop, ("middle", GO, None, None, (("go", "loop", 1),)), ("user", GO, None, None, (("go", "middle", 1),))),
             {"loop": None, "middle": None, "user": None}),
        ):
            for name, cost in expected.items():
                self.assertTrue(same(full_greatest(library, name), cost), (library, name))

    def test_all_least_and_greatest(self):
        for library, name in SMALL[::5]:
            entry = plain_library.entry_of(library, name)
            prices = {step: {} for step in ("least", "greatest")}
            for kind, function in (("least", full_least), ("greatest", full_greatest)):
                prices[kind] = {use[0]: function(library, use[1]) for use in entry[4]}
            costs = plain_readings.costs_of(entry[1], entry[3])
            least = [
                cost + sum(use[2] * prices["least"][use[0]] for use in entry[4] if use[0] == step[0])
                for cost, step in zip(costs, entry[1][1])
            ]
            self.assertEqual(full_least(library, name), plain_readings.least_cost(entry[1], least))
            if None not in prices["greatest"].values():
                greatest = [
                    cost + sum(use[2] * prices["greatest"][use[0]] for use in entry[4] if use[0] == step[0])
                    for cost, step in zip(costs, entry[1][1])
                ]
                self.assertEqual(full_greatest(library, name), plain_readings.greatest_cost(entry[1], greatest))

    def test_large_libraries_in_time(self):
        chance = Random(406)
        workflows = [branches((2, 2, 2), 2), rings((4, 2, 3)), LOOP_OF_100, EXACTLY_256, ladder(20), chain(29)]
        for _ in range(3):
            library = drawn_library(chance, workflows, 12, 10 ** 30)
            for entry in library:
                for function in VALUES:
                    self.assertEqual(in_time(SECONDS, lambda: outcome(function, library, entry[0]))[0], "returned")


class Errors(unittest.TestCase):

    def test_not_sound(self):
        library = (("a", GO, None, None, (("go", "c", 1),)), ("b", B, None, None, ()),
                   ("c", C, None, None, (("again", "e", 1),)), ("d", GROW, None, None, ()), ("e", L, None, None, ()))
        for name, workflow in (("a", L), ("b", B), ("c", L), ("d", GROW), ("e", L)):
            for function in VALUES:
                result = outcome(function, library, name)
                self.assertEqual(result[:2], ("raised", "NotSound"), (function, name))
                self.assertIs(is_structure_paper(workflow, result[2]["paper"]), True)
                self.assertNotEqual(result[2]["paper"][0], "sound")
            self.assertEqual(outcome(used_names, library, name)[0], "returned")
            self.assertEqual(outcome(expand, library, name)[0], "returned")
        # What is not used is not looked at.
        for function in VALUES:
            self.assertEqual(outcome(function, library + (("f", GO, None, None, ()),), "f")[0], "returned")

    def test_the_first_name_that_is_not_sound(self):
        two = (2, (("x", (0,), (1,)), ("y", (0,), (1,))))
        library = (("a", two, None, None, (("x", "c", 1), ("y", "b", 1))), ("b", B, None, None, ()),
                   ("c", GROW, None, None, (("use", "d", 1),)), ("d", L, None, None, ()))
        for name, workflow in (("a", B), ("b", B), ("c", GROW), ("d", L)):
            for function in VALUES:
                paper = outcome(function, library, name)[2]["paper"]
                self.assertIs(is_structure_paper(workflow, paper), True, (function, name))

    def test_too_many(self):
        over_256, over_100 = [("raised", "TooMany", {"limit": limit}) for limit in (256, 100)]
        for workflow, first, second in (
            (EXACTLY_256, "returned", "returned"), (EXACTLY_257, over_256, over_256),
            (LOOP_OF_100, "returned", "returned"), (LOOP_OF_101, over_100, "returned"),
        ):
            for library, name in (
                ((("a", workflow, None, None, ()),), "a"),
                ((("a", GO, None, None, (("go", "b", 1),)), ("b", workflow, None, None, ())), "a"),
            ):
                for function in VALUES:
                    expected = second if function in (full_least, full_greatest) else first
                    result = outcome(function, library, name)
                    self.assertEqual(result[0] if expected == "returned" else result, expected, function)

    def test_order_of_too_many(self):
        two = (2, (("x", (0,), (1,)), ("y", (0,), (1,))))

        def library(one, other):
            return (("a", one, None, None, ()), ("b", two, None, None, (("x", "a", 1), ("y", "c", 1))),
                    ("c", other, None, None, ()))

        for one, other, limit in ((LOOP_OF_101, EXACTLY_257, 100), (EXACTLY_257, LOOP_OF_101, 256)):
            for function in (full_cost, full_variance, full_counts):
                self.assertEqual(
                    outcome(function, library(one, other), "b"), ("raised", "TooMany", {"limit": limit})
                )
            for function in (full_least, full_greatest):
                self.assertEqual(outcome(function, library(one, other), "b"), ("raised", "TooMany", {"limit": 256}))
        # An entry that is not sound comes first, wherever it stands; there is no greatest cost of a loop.
        for function in VALUES:
            self.assertEqual(outcome(function, library(EXACTLY_257, B), "b")[:2], ("raised", "NotSound"))
            self.assertEqual(outcome(function, library(B, EXACTLY_257), "b")[:2], ("raised", "NotSound"))
        self.assertEqual(outcome(full_greatest, library(C, EXACTLY_257), "b"), ("raised", "TooMany", {"limit": 256}))
        self.assertEqual(outcome(full_greatest, library(C, LOOP_OF_101), "b"), ("returned", None))
        user = ("user", EXACTLY_257, None, None, ((EXACTLY_257[1][0][0], "loop", 1),))
        self.assertEqual(
            outcome(full_greatest, (("loop", C, None, None, ()), user), "user"), ("raised", "TooMany", {"limit": 256})
        )

    def test_the_first_wrong_argument_decides(self):
        for function in FUNCTIONS:
            for name in (None, "nosuch", ["buy"]):
                self.assertEqual(outcome(function, K[1:], name), ("raised", "InvalidLibrary", {}))
                self.assertEqual(outcome(function, list(K), name), ("raised", "InvalidLibrary", {}))
            unsound = (("a", B, None, None, ()),)
            self.assertEqual(outcome(function, unsound, "b"), ("raised", "UnknownName", {"name": "b"}))

    def test_arguments_are_not_changed(self):
        values = [K, list(K), (K[0], list(K[1])), with_uses(K, 1, [("begin", "buy", 1)]), {"a": K}]
        for value in values:
            for name in ("shop", ["shop"], {"a": ["b"]}):
                copies = copy_of(value), copy_of(name)
                for function in FUNCTIONS:
                    once = outcome(function, value, name)
                    self.assertTrue(same(once, outcome(function, copies[0], copies[1])))
                is_library(value)
                self.assertTrue(same((value, name), copies))

    def test_what_is_returned_does_not_change_later_results(self):
        before = full_counts(K, "shop")
        before[("shop", "again")] = None
        before.clear()
        self.assertEqual(len(full_counts(K, "shop")), 6)
        self.assertEqual(list(full_counts(K, "shop")), sorted(full_counts(K, "shop")))


if __name__ == "__main__":
    unittest.main()
