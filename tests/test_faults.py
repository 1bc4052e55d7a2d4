"""Faults of workflows that are not sound."""

import unittest
from random import Random

from caseflow.nets.runs import marking_after
from caseflow.sound.faults import find_fault, is_fault
from tests import plain, plain_algebra, plain_cases
from tests.built import (
    EXACTLY_257, FAULT_BEHIND_4096, FAULT_BEHIND_4097, GROW, LOOP_OF_101, TWICE, UNSOUND, branches, led_to,
)
from tests.pools import NOT_SOUND, SOUND, some
from tests.randoms import nearly_sound, random_workflows
from tests.samples import APART, B, C, D, F, L, ODD, P, PILE, in_time, label, outcome, same, wide

SECONDS = 60
# No step puts the first token on place 3, so the first marking is at fault.
AT_ONCE = (4, (("a", (0,), (2,)), ("b", (2, 3), (1, 3))))
# Behind some steps, which can be done again and again, only one of two branches is taken.
ROUND = (7, (("a", (0,), (4,)), ("again", (5,), (4,)), ("b", (4,), (5,)), ("both", (2, 3), (1,)), ("c", (5,), (6,)),
             ("left", (6,), (2,)), ("right", (6,), (3,))))


def runs(workflow, longest):
    return [run for length in range(longest + 1) for run in plain.runs(workflow, length)]


class FindFault(unittest.TestCase):

    def shows(self, workflow):
        """Fails unless the fault is a shortest one. Returns the fault."""
        fault = find_fault(workflow)
        expected = plain_cases.shortest_fault(workflow)[0]
        self.assertEqual(len(fault[1]), expected, (workflow, fault))
        self.assertIs(plain_cases.is_fault(workflow, fault), True, (workflow, fault))
        self.assertIs(is_fault(workflow, fault), True)
        self.assertTrue(same(fault, find_fault(workflow)))
        return fault

    def test_small_workflows(self):
        pool = NOT_SOUND + (AT_ONCE, ROUND) + tuple(random_workflows(150, 3, 4))
        faults = [self.shows(workflow) for workflow in pool if not plain_algebra.is_sound(workflow)]
        self.assertGreater(len([fault for fault in faults if fault[0] == "left"]), 50)
        self.assertGreater(len([fault for fault in faults if fault[0] == "empty"]), 20)
        lengths = [len(fault[1]) for fault in faults]
        self.assertGreater(max(lengths), 4)
        self.assertIn(0, lengths)

    def test_large_workflows(self):
        for workflow in [wide(20), wide(28), UNSOUND, led_to(branches((6, 6, 6), 0), "xaaaa", (1,))]:
            self.shows(workflow)
        for workflow in nearly_sound(40, 4):
            result = in_time(SECONDS, lambda: outcome(find_fault, workflow))
            if result[0] == "returned" and result[1] is not None:
                self.assertIs(is_fault(workflow, result[1]), True)

    def test_the_first_marking(self):
        self.assertTrue(same(self.shows(AT_ONCE), ("empty", (), (1, 3))))

    def test_sound_workflows(self):
        for workflow in SOUND + (EXACTLY_257, LOOP_OF_101, branches((2,) * 7, 0)):
            self.assertIsNone(find_fault(workflow))
            self.assertIsNone(plain_cases.shortest_fault(workflow) if workflow in SOUND[:40] else None)

    def test_exactly_4096_markings_before(self):
        self.assertEqual(plain_cases.shortest_fault(FAULT_BEHIND_4096), (22, 4096))
        self.assertEqual(plain_cases.shortest_fault(FAULT_BEHIND_4097), (23, 4097))
        fault = in_time(SECONDS, lambda: find_fault(FAULT_BEHIND_4096))
        self.assertEqual([fault[0], len(fault[1])], ["left", 22])
        self.assertIs(plain_cases.is_fault(FAULT_BEHIND_4096, fault), True)
        result = in_time(SECONDS, lambda: outcome(find_fault, FAULT_BEHIND_4097))
        self.assertTrue(same(result, ("raised", "TooMany", {"limit": 4096})))

    def test_a_fault_among_very_many_markings(self):
        # Behind the fork there are more and more markings, but a fault is near.
        steps = [("fork", (0,), tuple(range(2, 15)))] + [("s" + label(k), (k + 2,), (k + 15,)) for k in range(13)]
        steps += [("join", tuple(range(15, 28)), (1,)), ("go", (2,), (1,))]
        fault = in_time(SECONDS, lambda: find_fault((28, tuple(sorted(steps)))))
        self.assertEqual(fault, ("left", ("fork", "go")))
        # Without it, the number of markings is too great.
        steps = [step for step in steps if step[0] not in ("go", "join")] + [("join", tuple(range(15, 28)), (1, 15))]
        result = in_time(SECONDS, lambda: outcome(find_fault, (28, tuple(sorted(steps)))))
        self.assertTrue(same(result, ("raised", "TooMany", {"limit": 4096})))

    def test_more_and_more_tokens(self):
        self.assertEqual(self.shows(GROW), ("left", ("a", "more", "stop")))
        self.assertEqual(self.shows(TWICE), ("left", ("a", "b")))

    def test_no_workflow(self):
        for value in list(ODD) + [PILE, APART, list(C)]:
            if not plain.is_workflow(value):
                self.assertEqual(outcome(find_fault, value), ("raised", "InvalidWorkflow", {}), value)
                for fault in (("left", ()), None, ("empty", (), (1,)), ["left"]):
                    self.assertEqual(outcome(is_fault, value, fault), ("raised", "InvalidWorkflow", {}), value)


class IsFault(unittest.TestCase):

    def agree(self, workflow, value):
        expected = plain_cases.is_fault(workflow, value)
        self.assertIs(is_fault(workflow, value), expected, (workflow, value))
        return expected

    def test_all_runs_and_all_siphons(self):
        left, empty = 0, 0
        for workflow in (B, L, TWICE, AT_ONCE) + tuple(w for w in some(NOT_SOUND, 60, 20) if w[0] <= 4):
            for run in runs(workflow, 3):
                left += self.agree(workflow, ("left", run))
                for places in plain_algebra.sets_of(range(workflow[0])):
                    empty += self.agree(workflow, ("empty", run, places))
        self.assertGreater(left, 30)
        self.assertGreater(empty, 20)

    def test_longer_runs(self):
        for more in (1, 7, 1000):
            run = ("a",) + ("more",) * more + ("stop",)
            self.assertIs(is_fault(GROW, ("left", run)), True)
            self.assertIs(is_fault(GROW, ("left", run + ("use",) * (more - 1))), True)
            # The last token is brought to the end, so nothing stands anywhere else.
            self.assertIs(is_fault(GROW, ("left", run + ("use",) * more)), False)
            self.assertIs(is_fault(GROW, ("left", run + ("use",) * (more + 1))), False)
        self.assertEqual(marking_after(GROW, ("a", "more", "stop", "use")), (0, 2, 0, 0))

    def test_longer_runs_to_an_empty_siphon(self):
        self.assertEqual([len(find_fault(ROUND)[1]), find_fault(ROUND)[0]], [4, "empty"])
        for more in (0, 1, 2, 500):
            run = ("a", "b") + ("again", "b") * more + ("c",)
            for name, places in (("left", (0, 1, 3, 4, 5, 6)), ("right", (0, 1, 2, 4, 5, 6))):
                self.assertIs(is_fault(ROUND, ("empty", run + (name,), places)), True)
                self.assertIs(is_fault(ROUND, ("empty", run, places)), False)
                # Any part of it that is a siphon with the end is as good.
                found = [some for some in plain_algebra.sets_of(places)
                         if 1 in some and plain_algebra.is_siphon(ROUND[1], some)]
                self.assertGreater(len(found), 0)
                for some_places in found:
                    self.assertIs(is_fault(ROUND, ("empty", run + (name,), some_places)), True)

    def test_sound_workflows_have_none(self):
        for workflow in (C, P, F, D) + tuple(w for w in some(SOUND, 30, 21) if w[0] <= 5):
            for run in runs(workflow, 4):
                self.assertIs(self.agree(workflow, ("left", run)), False)
                marking = plain.follow(workflow, run, plain.first(workflow))[-1]
                empty = tuple(place for place in range(workflow[0]) if marking[place] == 0)
                for places in (empty, (1,), ()):
                    self.assertIs(self.agree(workflow, ("empty", run, places)), False)

    def test_the_siphon_contains_the_end(self):
        self.assertIs(is_fault(B, ("empty", ("left",), (0, 1, 3))), True)
        self.assertIs(is_fault(B, ("empty", ("left",), (0, 3))), False)
        self.assertIs(is_fault(B, ("empty", ("left",), ())), False)
        self.assertIs(is_fault(B, ("empty", ("right",), (0, 1, 3))), False)
        self.assertIs(is_fault(B, ("empty", ("right",), (0, 1, 2))), True)

    def test_siphons_of_the_net_and_of_the_closed_net(self):
        # A siphon of the closed net is one of the net; with the end in it, it is the other way round, too.
        for workflow in (B, L, TWICE, C, P) + tuple(w for w in some(NOT_SOUND, 40, 22) if w[0] <= 5):
            for places in plain_algebra.sets_of(range(workflow[0])):
                of_the_net = plain_algebra.is_siphon(workflow[1], places)
                of_the_closed_net = plain_algebra.is_siphon(plain_algebra.closed(workflow), places)
                self.assertIs(of_the_net and (1 in places or 0 not in places), of_the_closed_net)
        # (0,) is a siphon of the net only.
        self.assertIs(is_fault(B, ("empty", ("left",), (0,))), False)

    def test_wrong_parts(self):
        for value in (
            ("left", ("fork", "left"), ()), ("left", ("fork", "left"), (0,)), ("left",), ("left", ["fork", "left"]),
            ("Left", ("fork", "left")), (("fork", "left"), "left"), ["left", ("fork", "left")], ("left", "fork"),
            ("left", ("fork", "left", "left")), ("left", ("fork", "lost")), ("left", ("fork", None)), ("left", None),
            ("empty", ("fork", "left")), ("empty", ("fork", "left"), (1,)), (None, ("fork", "left")), ("left", ()),
            ("left", ("fork", "left"), None), ({}, ("fork", "left")), ("left", (("fork",), "left")),
        ):
            self.assertIs(self.agree(L, value), False)
        self.assertIs(self.agree(L, ("left", ("fork", "left"))), True)
        for places in (
            [0, 1, 3], (0, 3, 1), (0, 1, 1, 3), (0, True, 3), (False, 1, 3), (0, 1, 3, 4), (-1, 0, 1, 3), (0, 1, "3"),
            None, "013", 1, (0, 1, None), ((0, 1, 3),), {0: 1}, (0, 1, 10 ** 39), (0, 1, 2, 3), (0, 1, 2),
        ):
            self.assertIs(self.agree(B, ("empty", ("left",), places)), False, places)

    def test_any_value(self):
        chance = Random(23)
        for value in ODD + ("x" * 100000, ("left", "x" * 1000), ("empty", (), ()), ("left", (), (), ())):
            for workflow in (B, L, F, AT_ONCE):
                self.agree(workflow, value)
                self.agree(workflow, ("left", value))
                self.agree(workflow, ("empty", ("left",), value))
                self.agree(workflow, ("empty", value, (0, 1, 3)))
                self.agree(workflow, (value, chance.choice((("left",), ("fork", "left")))))


if __name__ == "__main__":
    unittest.main()
