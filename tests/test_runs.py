"""Runs, and the markings on their way."""

import unittest

from caseflow.nets.runs import is_complete, is_run, marking_after, markings_on
from tests import plain
from tests.randoms import random_nets
from tests.samples import (
    B, BACK, C, F, L, NETS, ODD, P, PILE, WORKFLOWS, choices, label, outcome, same, variants, wide,
)

FULL = 10 ** 9
# "keep" takes and gives a token on place 2; "turn" takes one from the start and gives it back.
HOLD = (3, (("keep", (2,), (1, 2)), ("more", (0,), (0, 2)), ("turn", (0,), (0,))))


def values(net):
    """Returns runs, beginnings of runs that go wrong, and other values."""
    names = [step[0] for step in net[1]]
    found = [()] + [(a,) for a in names] + [(a, b) for a in names for b in names]
    found += [(a, b, c) for a in names for b in names for c in names][:80]
    return found + list(ODD)


class Runs(unittest.TestCase):

    def agrees(self, net, value):
        found = plain.follow(net, value, plain.first(net))
        right = isinstance(found, list)
        self.assertIs(is_run(net, value), right, (net, value))
        if plain.defects(net) == ():
            self.assertIs(is_complete(net, value), right and found[-1] == plain.last(net), (net, value))
        if right:
            self.assertTrue(same(marking_after(net, value), found[-1]), (net, value))
            self.assertTrue(same(markings_on(net, value), tuple(found)), (net, value))
        else:
            raised = ("raised", "InvalidRun", {"at": found})
            self.assertTrue(same(outcome(marking_after, net, value), raised), (net, value))
            self.assertTrue(same(outcome(markings_on, net, value), raised), (net, value))

    def test_many_values(self):
        for net in NETS + tuple(random_nets(20, 5, 5)):
            for value in values(net):
                self.agrees(net, value)

    def test_each_part_replaced(self):
        for net, run in ((F, ("fork", "pay", "check", "back")), (C, ("begin", "again", "stop")), (P, ("card", "ship"))):
            for value in variants(run):
                self.agrees(net, value)

    def test_position(self):
        for value, at in (
            (("pay",), 0), (("fork", "fork"), 1), (("fork", "pay", "check", "join"), 3),
            (("fork", "pay", None), 2), (("fork", True), 1), (("fork", ["pay"]), 1), (("fork", ("pay",), "pay"), 1),
            (("fork", "Pay"), 1), (("fork", "nosuch", "pay"), 1), (("fork", {}, 5), 1), (["fork"], 0), ("fork", 0),
            (None, 0), ({"fork": 1}, 0), ((("fork",),), 0), (True, 0), (3, 0), (([],), 0),
        ):
            raised = ("raised", "InvalidRun", {"at": at})
            self.assertTrue(same(outcome(marking_after, F, value), raised), value)
            self.assertTrue(same(outcome(markings_on, F, value), raised), value)
            self.assertIs(is_run(F, value), False)
            self.assertIs(is_complete(F, value), False)

    def test_a_string_is_no_run(self):
        net = choices(1)
        self.assertEqual([is_run(net, ("aa",)), is_run(net, "aa")], [True, False])
        net = (2, (("a", (0,), (1,)),))
        self.assertEqual([is_run(net, ("a",)), is_run(net, "a"), is_complete(net, "a")], [True, False, False])

    def test_complete_runs(self):
        self.assertIs(is_complete(F, ("fork", "pay", "check", "pass", "join")), True)
        self.assertIs(is_complete(F, ("fork", "check", "back", "check", "pay", "pass", "join")), True)
        self.assertIs(is_complete(F, ("fork", "pay", "check", "pass")), False)
        self.assertIs(is_complete(F, ("fork", "pay", "check", "pass", "join", "join")), False)
        self.assertIs(is_complete(L, ("fork", "left")), False)
        self.assertIs(is_complete(L, ("fork", "left", "right")), False)
        for net in WORKFLOWS:
            self.assertIs(is_run(net, ()), True)
            self.assertIs(is_complete(net, ()), False)

    def test_long_runs(self):
        long = ("begin",) + ("again",) * 20000
        self.assertEqual([is_run(C, long), is_complete(C, long), is_complete(C, long + ("stop",))], [True, False, True])
        self.assertEqual(marking_after(C, long + ("stop",)), (0, 1, 0))
        self.assertEqual(len(markings_on(C, long)), 20002)
        self.assertEqual(outcome(marking_after, C, long + ("begin",)), ("raised", "InvalidRun", {"at": 20001}))
        self.assertEqual(marking_after(PILE, ("grow",) * 5000), (1, 0, 5000))

    def test_behind_the_end(self):
        self.assertEqual(markings_on(BACK, ("a", "b", "c")), ((1, 0, 0), (0, 1, 0), (0, 0, 1), (1, 1, 0)))

    def test_largest_nets(self):
        net = wide(28)
        names = tuple("s" + label(k) for k in range(28))
        self.assertEqual(marking_after(net, ("fork",) + names), (0, 28) + (0,) * 28)
        self.assertEqual(marking_after(net, ("fork",) + names[::-1]), (0, 28) + (0,) * 28)


class Beginnings(unittest.TestCase):

    def test_beginning(self):
        self.assertEqual(marking_after(P, ("ship", "ship"), marking=(0, 0, 2)), (0, 2, 0))
        self.assertEqual(markings_on(P, (), marking=(4, 5, 6)), ((4, 5, 6),))
        self.assertEqual(marking_after(P, (), marking=(4, 5, 6)), (4, 5, 6))
        self.assertEqual(marking_after(P, (), marking=None), (1, 0, 0))
        self.assertEqual(markings_on(P, ("card",), marking=None), ((1, 0, 0), (0, 0, 1)))

    def test_position(self):
        self.assertEqual(
            outcome(marking_after, P, ("ship", "ship"), marking=(0, 0, 1)), ("raised", "InvalidRun", {"at": 1})
        )
        self.assertEqual(outcome(markings_on, P, ("card",), marking=(0, 0, 1)), ("raised", "InvalidRun", {"at": 0}))

    def test_many_markings(self):
        for net in (F, P, B, PILE, BACK):
            for marking in ((1,) * net[0], (2,) * net[0], (0,) * net[0]):
                for value in values(net):
                    found = plain.follow(net, value, marking)
                    after = outcome(marking_after, net, value, marking=marking)
                    on = outcome(markings_on, net, value, marking=marking)
                    if isinstance(found, list):
                        self.assertTrue(same(after, ("returned", found[-1])), (net, marking, value))
                        self.assertTrue(same(on, ("returned", tuple(found))), (net, marking, value))
                    else:
                        self.assertTrue(same(after, ("raised", "InvalidRun", {"at": found})), (net, marking, value))
                        self.assertTrue(same(on, after), (net, marking, value))

    def test_wrong_markings(self):
        for marking in variants((0, 0, 1)):
            if marking is None or plain.is_marking(P, marking):
                continue
            for run in (("ship",), ("card",), None, ["ship"], (), "ship"):
                raised = ("raised", "InvalidMarking", {})
                self.assertEqual(outcome(marking_after, P, run, marking=marking), raised, marking)
                self.assertEqual(outcome(markings_on, P, run, marking=marking), raised, marking)

    def both(self, net, run, marking):
        after = outcome(marking_after, net, run, marking=marking)
        on = outcome(markings_on, net, run, marking=marking)
        self.assertEqual(after, ("returned", on[1][-1]) if on[0] == "returned" else on)
        return after

    def test_full_places(self):
        full = ("raised", "InvalidRun", {"at": 0})
        self.assertEqual(self.both(P, ("ship",), (0, FULL, 1)), full)
        self.assertEqual(self.both(P, ("ship",), (0, FULL - 1, 1)), ("returned", (0, FULL, 0)))
        self.assertEqual(self.both(P, ("card", "ship"), (1, FULL, 0)), ("raised", "InvalidRun", {"at": 1}))
        self.assertEqual(
            self.both(P, ("ship", "ship", "ship"), (0, FULL - 2, FULL)), ("raised", "InvalidRun", {"at": 2})
        )
        self.assertEqual(self.both(P, ("ship", "ship"), (0, FULL - 2, FULL)), ("returned", (0, FULL, FULL - 2)))

    def test_a_step_that_gives_back_what_it_takes(self):
        self.assertEqual(self.both(HOLD, ("turn", "turn"), (FULL, FULL, FULL)), ("returned", (FULL, FULL, FULL)))
        self.assertEqual(self.both(HOLD, ("turn", "keep"), (FULL, 5, FULL)), ("returned", (FULL, 6, FULL)))
        self.assertEqual(self.both(HOLD, ("keep",), (FULL, FULL, FULL)), ("raised", "InvalidRun", {"at": 0}))
        self.assertEqual(self.both(HOLD, ("more",), (FULL, 0, FULL - 1)), ("returned", (FULL, 0, FULL)))
        self.assertEqual(self.both(HOLD, ("more", "more"), (FULL, 0, FULL - 1)), ("raised", "InvalidRun", {"at": 1}))

    def test_one_full_place_among_the_outputs(self):
        self.assertEqual(self.both(F, ("fork",), (1, 0, FULL, 0, 0, 0, 0)), ("raised", "InvalidRun", {"at": 0}))
        self.assertEqual(self.both(F, ("fork",), (1, 0, 0, FULL, 0, 0, 0)), ("raised", "InvalidRun", {"at": 0}))
        self.assertEqual(
            self.both(F, ("fork",), (1, FULL, 0, 0, FULL, FULL, FULL)),
            ("returned", (0, FULL, 1, 1, FULL, FULL, FULL)),
        )


if __name__ == "__main__":
    unittest.main()
