"""Parts of workflows."""

import unittest
from itertools import combinations, permutations
from random import Random

from caseflow.nets.nets import is_workflow, step_names
from caseflow.nets.walks import Walk
from caseflow.sound.papers import is_sound
from caseflow.terms.shapes import collapse, is_part, largest_part, part_workflow
from tests import plain, plain_shapes, plain_terms
from tests.built import EXACTLY_257, GROW, ladder, rhombs
from tests.pools import LATE, LOOPS, SPLIT, TWINS, some
from tests.randoms import nearly_sound, random_sound, random_workflows
from tests.samples import (
    A, APART, B, C, D, F, L, ODD, OVERLAP, P, PILE, STILL, chain, choices, copy_of, in_time, outcome, same,
)

INVALID = ("raised", "InvalidTerm", {})
FUNCTIONS = ((is_part, ("value",)), (largest_part, ()), (part_workflow, ("names",)), (collapse, ("names", "name")))
SECONDS = 20
# Steps that have the first or the last place of a part beside another one.
WIDE = (4, (("a", (0, 2), (1, 3)), ("b", (3,), (2,))))
WIDER = (7, (("a", (0,), (2, 3)), ("b", (2, 4), (5,)), ("c", (2, 4), (3, 5)), ("d", (3,), (4,)), ("e", (5,), (1, 6)),
             ("f", (6,), (4, 6))))
SMALL = [A, B, C, D, F, L, P, GROW, SPLIT, TWINS, LATE, WIDE, WIDER, ladder(3), rhombs(2)]
SMALL += some(random_workflows(500, 4, 5), 16, 431) + some(random_workflows(500, 5, 6), 16, 432)
SMALL += some([workflow for workflow in random_sound(60, 2) + random_sound(60, 3) if len(workflow[1]) <= 7], 16, 433)


def pairs(workflow):
    return list(permutations(range(workflow[0]), 2))


def bad_number(value):
    return ("raised", "InvalidNumber", {"value": value})


class Parts(unittest.TestCase):

    def test_all_sets_of_steps(self):
        found = 0
        for workflow in SMALL:
            names = step_names(workflow)
            if len(names) > 7:
                continue
            for first, last in pairs(workflow):
                expected = plain_shapes.parts(workflow, first, last)
                found += len(expected)
                for many in range(len(names) + 1):
                    for value in combinations(names, many):
                        self.assertIs(
                            is_part(workflow, first, last, value), value in expected, (workflow, first, last, value)
                        )
                union = tuple(sorted({name for part in expected for name in part}))
                largest = largest_part(workflow, first, last)
                self.assertTrue(same(largest, union if expected else None), (workflow, first, last))
                self.assertIn(largest, expected + [None])
        self.assertGreater(found, 300)

    def test_part_workflows(self):
        for workflow in SMALL:
            for first, last in pairs(workflow):
                for part in plain_shapes.parts(workflow, first, last)[:6] if len(workflow[1]) <= 7 else ():
                    net = part_workflow(workflow, first, last, part)
                    steps = [step for step in workflow[1] if step[0] in part]
                    self.assertTrue(same(net, plain_shapes.net_between(steps, first, last)))
                    self.assertIs(is_workflow(net), True)

    def test_collapsing(self):
        kinds = {}
        for workflow in SMALL + nearly_sound(60, 2):
            for first, last in pairs(workflow):
                for part in plain_shapes.parts(workflow, first, last)[:6] if len(workflow[1]) <= 7 else ():
                    net = collapse(workflow, first, last, part, "newone")
                    self.assertTrue(same(net, plain_shapes.collapsed(workflow, first, last, part, "newone")))
                    self.assertIs(is_workflow(net), True)
                    sound = [is_sound(part_workflow(workflow, first, last, part)), is_sound(net), is_sound(workflow)]
                    if sound[0] and sound[1]:
                        self.assertIs(sound[2], True, (workflow, first, last, part))
                    kinds[tuple(sound)] = kinds.get(tuple(sound), 0) + 1
        self.assertGreater(kinds[(True, True, True)], 100)
        self.assertGreater(sum(kinds[kind] for kind in kinds if not kind[2]), 20)

    def test_some(self):
        self.assertEqual(largest_part(F, 0, 1), step_names(F))
        self.assertEqual(largest_part(F, 5, 6), None)
        # The step that leads from place 2 to place 2 belongs to no part that begins or ends there.
        self.assertEqual([largest_part(C, 0, 2), largest_part(C, 2, 1), largest_part(C, 0, 1)], [
            ("begin",), ("stop",), ("again", "begin", "stop")])
        self.assertEqual([largest_part(TWINS, 0, 2), largest_part(TWINS, 2, 1)], [("a", "b"), ("c", "d")])
        self.assertEqual([largest_part(WIDE, 0, 1), largest_part(WIDE, 3, 2)], [("a", "b"), ("b",)])
        self.assertEqual(largest_part(chain(29), 5, 20), step_names(chain(29))[4:19])
        self.assertEqual(part_workflow(F, 0, 1, step_names(F)), F)
        self.assertEqual(collapse(F, 0, 1, step_names(F), "all"), (2, (("all", (0,), (1,)),)))
        self.assertEqual(collapse(C, 0, 1, step_names(C), "again"), (2, (("again", (0,), (1,)),)))

    def test_parts_of_terms(self):
        """What is built of a part of a term is a part of the workflow."""
        chance = Random(434)
        for description in plain_terms.drawn_terms(chance, 120):
            workflow = plain_terms.workflow(description)
            if workflow[0] > 30:
                continue
            self.assertEqual(largest_part(workflow, 0, 1), step_names(workflow))
            builder = plain_terms.Builder()
            built = []
            builder.build = lambda told, x, y: (
                built.append((told, x, y)), plain_terms.Builder.build(builder, told, x, y))
            builder.build(plain_terms.normal(description), 0, 1)
            for told, x, y in built:
                names = tuple(sorted(plain_terms.walk(told)))
                self.assertIs(is_part(workflow, x, y, names), True, (workflow, told))
                self.assertTrue(set(names) <= set(largest_part(workflow, x, y)))
                net = part_workflow(workflow, x, y, names)
                self.assertEqual(plain_terms.form(net), plain_terms.form(plain_terms.workflow(told)))

    def test_large_workflows_in_time(self):
        for workflow in (EXACTLY_257, LOOPS, chain(29), choices(40), rhombs(9), ladder(20)):
            def all_of_them():
                return [largest_part(workflow, first, last) for first, last in pairs(workflow)]

            for (first, last), part in zip(pairs(workflow), in_time(SECONDS, all_of_them)):
                if part is not None:
                    self.assertIs(plain_shapes.is_part(workflow, first, last, part), True)


class Values(unittest.TestCase):

    def test_every_value(self):
        for workflow, first, last in ((P, 0, 2), (P, 0, 1), (F, 3, 6), (F, 2, 5), (C, 0, 1)):
            right = [part for part in plain_shapes.parts(workflow, first, last)]
            values = list(ODD) + ["card", "x" * 100000, "\x00", b"card"]
            for part in right:
                values += [list(part), part + part, part + (None,), part + ("nosuch",), part[1:], set(part), " ".join(part)]
                values += [part[::-1], (part,), tuple([name] for name in part), dict.fromkeys(part), part + ("zz",)]
            for value in values:
                expected = isinstance(value, tuple) and value in right
                self.assertIs(is_part(workflow, first, last, value), expected, value)
                if not expected and not isinstance(value, set):
                    self.assertEqual(outcome(part_workflow, workflow, first, last, value), INVALID, value)
                    self.assertEqual(outcome(collapse, workflow, first, last, value, "name"), INVALID, value)

    def test_names_of_the_new_step(self):
        for name in ODD + ("money", "card", "cash", "ship", "Money", "moneybags", "moneybag"):
            right = type(name) is str and 1 <= len(name) <= 8 and set(name) <= set("abcdefghijklmnopqrstuvwxyz")
            result = outcome(collapse, P, 0, 2, ("card", "cash"), name)
            if right and name != "ship":
                self.assertTrue(same(result[1], (3, tuple(sorted([(name, (0,), (2,)), P[1][2]])))), name)
            else:
                self.assertEqual(result, INVALID, name)
            # "cash" stands outside of this part.
            result = outcome(collapse, P, 0, 2, ("card",), name)
            self.assertEqual(result[0], "returned" if right and name not in ("ship", "cash") else "raised")


class Errors(unittest.TestCase):

    def call(self, function, others, *args, **more):
        values = {"value": ("card", "cash"), "names": ("card", "cash"), "name": "money", **more}
        return outcome(function, *args, *[values[name] for name in others])

    def test_no_workflow(self):
        for value in [value for value in ODD if not plain.is_net(value) or plain.defects(value)] + [
                PILE, OVERLAP, APART, STILL, list(C), Walk(C)]:
            for function, others in FUNCTIONS:
                for first, last in ((0, 2), (None, None), (0, 0)):
                    result = self.call(function, others, value, first, last, names=None, name=None)
                    self.assertEqual(result, ("raised", "InvalidWorkflow", {}), (function, value))

    def test_places(self):
        for value in ODD + (3, -1, 2.0):
            right = type(value) is int and 0 <= value < 3
            for function, others in FUNCTIONS:
                for last in (2, None, 77):
                    result = self.call(function, others, P, value, last)
                    if not right:
                        self.assertTrue(same(result[2].get("value"), value) or result[2]["value"] is value)
                        self.assertEqual(result[:2], ("raised", "InvalidNumber"), (function, value))
                result = self.call(function, others, P, 0, value, names=None, name=None)
                if not right or value == 0:
                    self.assertEqual(result[:2], ("raised", "InvalidNumber"), (function, value))
                    self.assertTrue(same(result[2]["value"], value) or result[2]["value"] is value)

    def test_equal_places(self):
        for workflow in (P, F, C, B):
            for place in range(workflow[0]):
                for function, others in FUNCTIONS:
                    result = self.call(function, others, workflow, place, place, names=None)
                    self.assertEqual(result, bad_number(place), function)

    def test_two_wrong_arguments(self):
        for function, others in FUNCTIONS:
            self.assertEqual(self.call(function, others, P, True, True, names=None), bad_number(True))
            self.assertEqual(self.call(function, others, P, 5, 4, names=None), bad_number(5))
            self.assertEqual(self.call(function, others, P, 1, 1, names=(), name=None), bad_number(1))
        # The names of both kinds are wrong.
        self.assertEqual(outcome(collapse, P, 0, 2, ("ship",), "card"), INVALID)
        self.assertEqual(outcome(collapse, P, 0, 2, (), None), INVALID)

    def test_arguments_are_not_changed(self):
        for value in (["card", "cash"], {"card": ["cash"]}, ("card", ["cash"]), [[0]]):
            before = copy_of(value)
            for function, others in FUNCTIONS:
                for args in ((P, 0, 2), (value, 0, 2), (P, value, 2), (P, 0, value)):
                    once = self.call(function, others, *args, value=value, names=value, name=value)
                    self.assertTrue(same(once, self.call(function, others, *copy_of(args), value=value, names=value)))
                    self.assertTrue(same(value, before))


if __name__ == "__main__":
    unittest.main()
