"""Nets, workflows and defects."""

import unittest
from itertools import permutations

from caseflow.nets.nets import (
    inputs_of, is_net, is_workflow, make_net, net_defects, outputs_of, step_names,
)
from tests import plain
from tests.samples import (
    APART, B, BACK, C, F, NETS, ODD, OVERLAP, PILE, STILL, WORKFLOWS, chain, choices, label, outcome, same,
    variants, wide,
)
from tests.randoms import random_nets


class IsNet(unittest.TestCase):

    def test_nets(self):
        for net in NETS:
            self.assertIs(is_net(net), True)

    def test_numbers_of_places(self):
        steps = (("a", (0,), (1,)),)
        for places in range(-1, 34):
            self.assertIs(is_net((places, steps)), 2 <= places <= 30, places)
        self.assertIs(is_net((1, (("a", (0,), (0,)),))), False)
        self.assertIs(is_net((2, (("a", (0,), (0,)),))), True)

    def test_numbers_of_steps(self):
        for many in range(43):
            self.assertIs(is_net(choices(many)), 1 <= many <= 40, many)

    def test_names(self):
        for name in ("a", "z", "az", "abcdefgh", "zzzzzzzz"):
            self.assertIs(is_net((2, ((name, (0,), (1,)),))), True, name)
        for name in ("", "abcdefghi", "a" * 40, "A", "aB", "a1", "a b", "a_b", " a", "a\n", "`", "{", "\u00e9",
                     "\u00aa", "\uff41", None, 1, True, ("a",), ["a"], b"a", {"a": 1}):
            self.assertIs(is_net((2, ((name, (0,), (1,)),))), False, name)

    def test_order_of_steps(self):
        self.assertIs(is_net((2, (("b", (0,), (1,)), ("a", (0,), (1,))))), False)
        self.assertIs(is_net((2, (("a", (0,), (1,)), ("a", (0,), (1,))))), False)
        self.assertIs(is_net((3, (("a", (0,), (1,)), ("a", (0,), (2,))))), False)
        self.assertIs(is_net((2, (("a", (0,), (1,)), ("aa", (0,), (1,)), ("b", (0,), (1,))))), True)

    def test_places_of_a_step(self):
        for side in ((0,), (3,), (0, 3), (0, 1, 2, 3)):
            self.assertIs(is_net((4, (("a", side, (1,)),))), True, side)
            self.assertIs(is_net((4, (("a", (0,), side),))), True, side)
        for side in ((), (4,), (-1,), (1, 0), (0, 0), (0, 2, 2), (True,), (0, True), (False,), [0], "0", ("0",),
                     None, 0, {0: 1}, ((0,),), (None,)):
            self.assertIs(is_net((4, (("a", side, (1,)),))), False, side)
            self.assertIs(is_net((4, (("a", (0,), side),))), False, side)

    def test_input_and_output_of_one_step(self):
        self.assertIs(is_net((3, (("a", (0, 2), (0, 2)),))), True)

    def test_other_values(self):
        for value in ODD:
            self.assertIs(is_net(value), plain.is_net(value), value)
            self.assertIs(is_workflow(value), plain.is_workflow(value), value)
        for text in ("", "x" * 100000, "\x00", "(2, ())"):
            self.assertIs(is_net(text), False)
            self.assertIs(is_workflow(text), False)

    def test_each_part_replaced(self):
        for net in (F, C, B, PILE, OVERLAP):
            for value in variants(net):
                self.assertIs(is_net(value), plain.is_net(value), value)
                self.assertIs(is_workflow(value), plain.is_workflow(value), value)


class IsWorkflow(unittest.TestCase):

    def test_workflows(self):
        for net in WORKFLOWS:
            self.assertIs(is_workflow(net), True)
            self.assertEqual(net_defects(net), ())
        for net in (PILE, OVERLAP, APART, STILL, BACK):
            self.assertIs(is_workflow(net), False)

    def test_smallest_and_largest(self):
        for net in (choices(1), choices(40), chain(1), chain(2), chain(29)):
            self.assertIs(is_workflow(net), True)
            self.assertEqual(net_defects(net), ())

    def test_many_nets(self):
        for net in random_nets(400, 6, 6):
            self.assertTrue(same(net_defects(net), plain.defects(net)), net)
            self.assertIs(is_workflow(net), plain.defects(net) == (), net)

    def test_large_nets(self):
        for net in random_nets(12, 30, 40) + [wide(28)]:
            self.assertTrue(same(net_defects(net), plain.defects(net)), net)


class Defects(unittest.TestCase):

    def test_start(self):
        self.assertEqual(
            net_defects((2, (("a", (0,), (0, 1)), ("b", (0,), (1,)), ("c", (0,), (0,))))),
            (("start", "a"), ("start", "c")),
        )

    def test_end(self):
        self.assertEqual(
            net_defects((3, (("a", (0,), (1,)), ("b", (1,), (2,)), ("c", (2,), (1,))))), (("end", "b"),)
        )

    def test_choice(self):
        net = (4, (("a", (0,), (2, 3)), ("b", (2, 3), (1,)), ("c", (2,), (1,)), ("d", (3,), (1,)), ("e", (3,), (1,))))
        self.assertEqual(net_defects(net), (("choice", "b", "c"), ("choice", "b", "d"), ("choice", "b", "e")))

    def test_equal_inputs_are_no_defect(self):
        net = (4, (("a", (0,), (2, 3)), ("b", (2, 3), (1,)), ("c", (2, 3), (1,))))
        self.assertEqual(net_defects(net), ())

    def test_place_and_step_behind_the_start_only(self):
        net = (3, (("a", (0,), (1,)), ("b", (0,), (2,))))
        self.assertEqual(net_defects(net), (("place", 2), ("step", "b")))

    def test_place_and_step_before_the_end_only(self):
        net = (3, (("a", (0,), (1,)), ("b", (2,), (1,))))
        self.assertEqual(net_defects(net), (("place", 2), ("step", "b")))

    def test_place_without_steps(self):
        self.assertEqual(net_defects((4, (("a", (0,), (1,)),))), (("place", 2), ("place", 3)))

    def test_no_path_at_all(self):
        self.assertEqual(
            net_defects(APART),
            (("place", 0), ("place", 1), ("place", 2), ("place", 3), ("step", "a"), ("step", "b")),
        )
        self.assertEqual(
            net_defects(STILL), (("place", 0), ("place", 1), ("start", "stay"), ("step", "stay"))
        )

    def test_a_path_can_go_on_behind_the_end(self):
        self.assertEqual(net_defects(BACK), (("end", "b"), ("start", "c")))

    def test_ascending(self):
        net = (4, (("z", (0, 1), (0,)), ))
        found = net_defects(net)
        self.assertEqual(list(found), sorted(found))
        self.assertEqual([defect[0] for defect in found], ["end"] + ["place"] * 4 + ["start", "step"])


class MakeNet(unittest.TestCase):

    def test_any_order(self):
        for net in (F, C, PILE):
            for steps in list(permutations(net[1]))[:60]:
                self.assertTrue(same(make_net(net[0], *steps), net))

    def test_places_in_any_order_and_repeated(self):
        made = make_net(5, ("a", (3, 0, 3, 2), (4, 4, 1, 1, 4)))
        self.assertTrue(same(made, (5, (("a", (0, 2, 3), (1, 4)),))))
        for side in ((8, 1), (29, 16, 8, 0), (24, 3, 24, 17), tuple(range(29, -1, -1))):
            expected = tuple(sorted(set(side)))
            self.assertEqual(make_net(30, ("a", side, (1,))), (30, (("a", expected, (1,)),)))
            self.assertEqual(make_net(30, ("a", (0,), side)), (30, (("a", (0,), expected),)))
        self.assertEqual(make_net(2, ("a", (0,) * 1000, (1,) * 1000)), (2, (("a", (0,), (1,)),)))

    def test_numbers_of_places(self):
        step = ("a", (0,), (1,))
        self.assertEqual([make_net(2, step), make_net(30, step)], [(2, (step,)), (30, (step,))])
        for places in ODD + (-1, 0, 1, 31, 10 ** 40, "3", [3], (3,)):
            if type(places) is int and 2 <= places <= 30:
                continue
            raised = ("raised", "InvalidNumber", {"value": places})
            self.assertTrue(same(outcome(make_net, places, step), raised), places)
            self.assertTrue(same(outcome(make_net, places), raised), places)
            self.assertTrue(same(outcome(make_net, places, None, step, step), raised), places)

    def test_numbers_of_steps(self):
        self.assertEqual(outcome(make_net, 3), ("raised", "InvalidNet", {}))
        steps = choices(40)[1]
        self.assertEqual(make_net(2, *steps[::-1]), (2, steps))
        self.assertEqual(outcome(make_net, 2, *choices(41)[1]), ("raised", "InvalidNet", {}))

    def test_two_steps_of_one_name(self):
        step = ("a", (0,), (1,))
        for other in (step, ("a", (0,), (2,)), ("a", (2,), (1,)), ("a", (0, 0), (1,))):
            self.assertEqual(outcome(make_net, 3, step, other), ("raised", "InvalidNet", {}), other)

    def test_a_net_that_is_no_workflow(self):
        for net in NETS:
            self.assertEqual(make_net(net[0], *net[1]), net)

    def test_wrong_steps(self):
        for value in variants(("a", (0,), (1, 2))):
            right = plain.is_net((3, (_in_order(value),)))
            for steps in ((value,), (("b", (0,), (1,)), value)):
                result = outcome(make_net, 3, *steps)
                if right and len(set(step[0] for step in steps)) == len(steps):
                    expected = ("returned", (3, tuple(sorted(_in_order(step) for step in steps))))
                else:
                    expected = ("raised", "InvalidNet", {})
                self.assertTrue(same(result, expected), (steps, result))

    def test_places_out_of_range(self):
        for place in (-1, 3, 10 ** 39, 10 ** 5000):
            for step in (("a", (place,), (1,)), ("a", (0,), (1, place))):
                self.assertEqual(outcome(make_net, 3, step), ("raised", "InvalidNet", {}), place)


def _in_order(step):
    """Returns the step with its places in order, if this is possible."""
    if not isinstance(step, tuple) or len(step) != 3:
        return step
    if not all(isinstance(side, tuple) and all(type(p) is int for p in side) for side in step[1:]):
        return step
    return (step[0],) + tuple(tuple(sorted(set(side))) for side in step[1:])


class Steps(unittest.TestCase):

    def test_names(self):
        for net in NETS + (choices(40), choices(1)):
            self.assertTrue(same(step_names(net), tuple(step[0] for step in net[1])))

    def test_inputs_and_outputs(self):
        for net in NETS + (wide(28), choices(40)):
            for name, inputs, outputs in net[1]:
                self.assertTrue(same(inputs_of(net, name), inputs))
                self.assertTrue(same(outputs_of(net, name), outputs))

    def test_unknown_steps(self):
        for net in (F, C, PILE):
            for name in ODD + ("Fork", "for", "forks", label(0), ["fork"], ("fork",)):
                if isinstance(name, str) and name in [step[0] for step in net[1]]:
                    continue
                raised = ("raised", "UnknownStep", {"name": name})
                self.assertTrue(same(outcome(inputs_of, net, name), raised), name)
                self.assertTrue(same(outcome(outputs_of, net, name), raised), name)


if __name__ == "__main__":
    unittest.main()
