"""Walks."""

import unittest
from random import Random

from caseflow.nets.runs import marking_after, markings_on
from caseflow.nets.walks import Walk
from tests import plain
from tests.randoms import random_nets
from tests.samples import B, C, F, L, NETS, ODD, P, PILE, chain, choices, copy_of, label, outcome, same, variants, wide

# Two steps in turn, without end.
TURN = (3, (("a", (0,), (2,)), ("b", (2,), (0,)), ("c", (2,), (1,))))


def raised_at(at):
    return ("raised", "InvalidRun", {"at": at})


TOO_LONG = ("raised", "TooMany", {"limit": 400})


def told(walk):
    """Returns all that a walk tells of itself."""
    return (walk.marking, walk.next_steps, walk.names, len(walk), str(walk), list(walk.markings()))


def assign(walk, run):
    walk.names = run


class Walks(unittest.TestCase):

    def shows(self, walk, net, names):
        """Fails unless the walk of this net tells what it must with this run."""
        passed = plain.follow(net, names, plain.first(net))
        expected = (
            passed[-1], tuple(step[0] for step in plain.enabled(net, passed[-1])), names, len(names),
            "walk of {} steps".format(len(names)), passed,
        )
        self.assertTrue(same(told(walk), expected), (net, names))

    def stays(self, walk, call, *args):
        """Returns the outcome of a call that must leave the walk as it was."""
        before = told(walk)
        copies = copy_of(args)
        result = outcome(call, *args)
        self.assertEqual(result[0], "raised", args)
        self.assertTrue(same(told(walk), before), args)
        self.assertTrue(same(args, copies))
        return result


class Beginning(Walks):

    def test_at_first(self):
        for net in NETS + tuple(random_nets(20, 6, 6)) + (wide(28), choices(40)):
            self.shows(Walk(net), net, ())

    def test_no_net(self):
        for value in [value for value in ODD if not plain.is_net(value)] + [list(C), (3, list(C[1])), Walk(C)]:
            self.assertEqual(outcome(Walk, value), ("raised", "InvalidNet", {}), value)
            for run in ((), ("begin",), None, ["begin"], ("begin",) * 401):
                self.assertEqual(outcome(Walk.along, value, run), ("raised", "InvalidNet", {}), value)

    def test_longest(self):
        self.assertTrue(same([Walk.LONGEST, Walk(C).LONGEST], [400, 400]))

    def test_along(self):
        for net, names in ((F, ("fork", "pay")), (C, ()), (C, ("begin",) + ("again",) * 399), (PILE, ("grow",) * 400)):
            walk = Walk.along(net, names)
            self.assertIs(type(walk), Walk)
            self.shows(walk, net, names)
            self.shows(Walk(P).along(net, names), net, names)

    def test_along_what_is_no_run(self):
        for net in (F, C):
            for run in ODD:
                found = plain.follow(net, run, plain.first(net))
                if not isinstance(found, list):
                    self.assertTrue(same(outcome(Walk.along, net, run), raised_at(found)), run)
        self.assertEqual(outcome(Walk.along, C, ("begin",) + ("again",) * 400), TOO_LONG)
        self.assertEqual(outcome(Walk.along, C, ("begin",) + ("again",) * 400 + ("begin",)), raised_at(401))


class Numbers(unittest.TestCase):

    def test_long_enough(self):
        for many in (0, 1, 2, 399, 400):
            self.assertIs(Walk.is_long_enough(many), True)
            self.assertIs(Walk(C).is_long_enough(many), True)
        for many in (-1, 401, True, False, None, "3", (), (3,), [3], {}, 10 ** 39, -10 ** 39, C, Walk(C), "x" * 100000):
            self.assertIs(Walk.is_long_enough(many), False, many)
        for many in ODD:
            self.assertIs(Walk.is_long_enough(many), type(many) is int and 0 <= many <= 400, many)


class Doing(Walks):

    def test_step_by_step(self):
        walk = Walk(F)
        names = ()
        for name in ("fork", "check", "back", "pay", "check", "pass", "join"):
            names += (name,)
            self.assertTrue(same(walk.do(name), marking_after(F, names)))
            self.shows(walk, F, names)
        self.assertEqual(walk.next_steps, ())

    def test_several_at_once(self):
        walk = Walk(F)
        self.assertEqual(walk.do("fork", "check", "back"), marking_after(F, ("fork", "check", "back")))
        self.assertEqual(walk.do(), walk.marking)
        self.assertEqual(walk.do("pay"), (0, 0, 1, 0, 0, 0, 1))
        self.shows(walk, F, ("fork", "check", "back", "pay"))

    def test_no_steps(self):
        for net in NETS:
            walk = Walk(net)
            self.assertTrue(same(walk.do(), plain.first(net)))
            self.shows(walk, net, ())

    def test_a_wrong_name_among_right_ones(self):
        walk = Walk.along(F, ("fork",))
        for names, at in (
            (("fork",), 0), (("check", "join"), 1), (("check", "back", "pass", "check"), 2), (("pay", "pay"), 1),
            (("check", "pass", "pay", "join", "join"), 4), (("nosuch", "pay"), 0), (("pay", "Pay", "check"), 1),
            (("pay", ""), 1), (("pay", None), 1), (("pay", ("check",)), 1), (("pay", ["check"], "check"), 1),
            (("pay", {}), 1), (("pay", True), 1), ((("pay", "check"),), 0), (("check", 0), 1), ((Walk(F),), 0),
        ):
            self.assertTrue(same(self.stays(walk, walk.do, *names), raised_at(at)), names)
        for name in ODD:
            if name not in ("check", "pay"):
                self.assertTrue(same(self.stays(walk, walk.do, name), raised_at(0)), name)
                self.assertTrue(same(self.stays(walk, walk.do, "pay", name, "check"), raised_at(1)), name)
        self.shows(walk, F, ("fork",))

    def test_longest(self):
        walk = Walk.along(C, ("begin",) + ("again",) * 399)
        self.assertEqual(len(walk), 400)
        self.assertEqual(self.stays(walk, walk.do, "again"), TOO_LONG)
        self.assertEqual(self.stays(walk, walk.do, "stop"), TOO_LONG)
        self.assertEqual(self.stays(walk, walk.do, "begin"), raised_at(0))
        self.assertEqual(self.stays(walk, walk.do, "again", "begin"), raised_at(1))
        self.assertEqual(walk.do(), (0, 0, 1))
        self.assertEqual(walk.back(), (0, 0, 1))
        self.assertEqual(self.stays(walk, walk.do, "again", "stop"), TOO_LONG)
        self.assertEqual(walk.do("stop"), (0, 1, 0))
        self.shows(walk, C, ("begin",) + ("again",) * 398 + ("stop",))

    def test_one_by_one_to_the_longest(self):
        walk = Walk(TURN)
        for many in range(400):
            walk.do("ab"[many % 2])
        self.shows(walk, TURN, ("a", "b") * 200)
        self.assertEqual(self.stays(walk, walk.do, "a"), TOO_LONG)
        self.assertEqual(self.stays(walk, walk.do, "b"), raised_at(0))

    def test_all_at_once_to_the_longest(self):
        walk = Walk(TURN)
        self.assertEqual(self.stays(walk, walk.do, *("a", "b") * 200, "a"), TOO_LONG)
        self.assertEqual(self.stays(walk, walk.do, *("a", "b") * 300, "b"), raised_at(600))
        self.assertEqual(walk.do(*("a", "b") * 200), (1, 0, 0))
        self.shows(walk, TURN, ("a", "b") * 200)

    def test_largest_nets(self):
        names = ("fork",) + tuple("s" + label(k) for k in range(28))
        walk = Walk(wide(28))
        walk.do(*names)
        self.shows(walk, wide(28), names)
        walk = Walk(chain(29))
        walk.do(*[label(k) for k in range(29)])
        self.assertEqual(walk.marking, plain.last(chain(29)))


class Putting(Walks):

    def test_runs(self):
        walk = Walk(F)
        for run in (("fork",), ("fork", "pay", "check"), (), ("fork", "check", "back", "check", "pass"), ("fork",)):
            self.assertTrue(same(walk.put(run), marking_after(F, run)))
            self.shows(walk, F, run)
            walk.put(())
            self.assertIs(assign(walk, run), None)
            self.shows(walk, F, run)

    def test_what_is_no_run(self):
        walk = Walk.along(F, ("fork", "check"))
        values = list(ODD) + list(variants(("fork", "pay")))
        for value in values + [["fork"], "fork", {"fork": 1}, {0: "fork"}, ("fork", "join"), ("pay",), (["fork"],)]:
            found = plain.follow(F, value, plain.first(F))
            if isinstance(found, list):
                continue
            self.assertTrue(same(self.stays(walk, walk.put, value), raised_at(found)), value)
            self.assertTrue(same(self.stays(walk, assign, walk, value)[:2], raised_at(found)[:2]), value)
        self.assertEqual(self.stays(walk, walk.put, ("fork", "check", "join")), raised_at(2))
        self.assertEqual(outcome(assign, walk, ["fork"]), raised_at(0))
        self.shows(walk, F, ("fork", "check"))

    def test_the_run_begins_at_the_first_marking(self):
        walk = Walk.along(F, ("fork",))
        self.assertEqual(self.stays(walk, walk.put, ("check",)), raised_at(0))
        self.assertEqual(outcome(assign, walk, ("check",)), raised_at(0))

    def test_long_runs(self):
        walk = Walk.along(C, ("begin",))
        longest = ("begin",) + ("again",) * 399
        self.assertEqual(self.stays(walk, walk.put, longest + ("stop",)), TOO_LONG)
        self.assertEqual(self.stays(walk, walk.put, longest + ("again",) * 5000), TOO_LONG)
        self.assertEqual(self.stays(walk, walk.put, longest + ("stop", "stop")), raised_at(401))
        self.assertEqual(outcome(assign, walk, longest + ("stop",)), TOO_LONG)
        self.assertEqual(outcome(assign, walk, longest + ("begin",)), raised_at(400))
        self.shows(walk, C, ("begin",))
        self.assertEqual(walk.put(longest), (0, 0, 1))
        self.shows(walk, C, longest)

    def test_goes_on_behind_what_was_put(self):
        walk = Walk.along(L, ("fork", "left"))
        walk.names = ("fork",)
        self.assertEqual(walk.do("right"), (0, 1, 1, 0))
        self.assertEqual(walk.back(2), (1, 0, 0, 0))
        self.shows(walk, L, ())


class Back(Walks):

    def test_back(self):
        run = ("fork", "check", "back", "pay", "check")
        for many in range(6):
            walk = Walk.along(F, run)
            self.assertTrue(same(walk.back(many), marking_after(F, run[:5 - many])))
            self.shows(walk, F, run[:5 - many])

    def test_one_step(self):
        walk = Walk.along(F, ("fork", "check"))
        self.assertEqual(walk.back(), (0, 0, 1, 1, 0, 0, 0))
        self.assertEqual(walk.back(many=1), (1, 0, 0, 0, 0, 0, 0))
        self.assertEqual(self.stays(walk, walk.back), ("raised", "InvalidNumber", {"value": 1}))
        self.assertEqual(walk.back(0), (1, 0, 0, 0, 0, 0, 0))

    def test_wrong_numbers(self):
        walk = Walk.along(F, ("fork", "check", "back"))
        for many in list(ODD) + [4, 5, 400, 401, -1, True, False, "1", (1,), [1], Walk(F)]:
            if type(many) is int and 0 <= many <= 3:
                continue
            raised = ("raised", "InvalidNumber", {"value": many})
            self.assertTrue(same(outcome(walk.back, many), raised), many)
        self.shows(walk, F, ("fork", "check", "back"))

    def test_all_of_the_longest(self):
        walk = Walk.along(TURN, ("a", "b") * 200)
        self.assertEqual(self.stays(walk, walk.back, 401), ("raised", "InvalidNumber", {"value": 401}))
        self.assertEqual(walk.back(399), (0, 0, 1))
        self.assertEqual(walk.back(1), (1, 0, 0))
        self.assertEqual(walk.names, ())

    def test_other_steps_behind(self):
        walk = Walk.along(P, ("card", "ship"))
        walk.back(2)
        walk.do("cash")
        self.shows(walk, P, ("cash",))


class Markings(Walks):

    def test_from_the_first_to_the_present_one(self):
        for net, run in ((F, ("fork", "pay", "check")), (C, ("begin", "again", "again")), (P, ())):
            self.assertTrue(same(tuple(Walk.along(net, run).markings()), markings_on(net, run)))

    def test_one_by_one(self):
        walk = Walk.along(C, ("begin", "stop"))
        found = walk.markings()
        self.assertIs(iter(found), found)
        self.assertEqual([next(found), next(found), next(found)], [(1, 0, 0), (0, 0, 1), (0, 1, 0)])
        self.assertIs(next(found, None), None)
        self.assertEqual(len(list(walk.markings())), 3)

    def test_a_changed_list_changes_nothing(self):
        walk = Walk.along(C, ("begin",))
        found = list(walk.markings())
        found.append((0, 0, 0))
        self.shows(walk, C, ("begin",))


class Properties(Walks):

    def test_cannot_be_assigned(self):
        walk = Walk.along(C, ("begin",))
        for name, value in (("marking", (1, 0, 0)), ("next_steps", ("begin",))):
            self.assertRaises(AttributeError, setattr, walk, name, value)
            self.assertIsInstance(getattr(Walk, name), property)
        self.assertIsInstance(Walk.names, property)
        self.shows(walk, C, ("begin",))

    def test_was_it_done(self):
        walk = Walk.along(F, ("fork", "check", "back"))
        self.assertEqual(["check" in walk.names, "pay" in walk.names, None in walk.names], [True, False, False])

    def test_words(self):
        self.assertEqual(
            [str(Walk.along(C, run)) for run in ((), ("begin",), ("begin", "stop"))],
            ["walk of 0 steps", "walk of 1 steps", "walk of 2 steps"],
        )

    def test_two_walks_of_one_net(self):
        one, other = Walk(C), Walk(C)
        one.do("begin")
        self.shows(one, C, ("begin",))
        self.shows(other, C, ())


class Equal(unittest.TestCase):

    def test_equal_walks(self):
        walk = Walk.along(F, ("fork", "pay"))
        other = Walk(copy_of(F))
        self.assertEqual([walk == other, walk != other], [False, True])
        other.do("fork", "check")
        other.back()
        other.do("pay")
        self.assertIs(walk == other, True)
        self.assertIs(walk != other, False)
        self.assertIs(walk == walk, True)

    def test_other_runs(self):
        self.assertIs(Walk.along(F, ("fork", "pay", "check")) == Walk.along(F, ("fork", "check", "pay")), False)
        self.assertIs(Walk.along(P, ("card",)) == Walk.along(P, ("cash",)), False)
        self.assertIs(Walk.along(C, ("begin",)) == Walk.along(C, ("begin", "again")), False)

    def test_other_nets(self):
        self.assertIs(Walk(F) == Walk(C), False)
        self.assertIs(Walk(B) == Walk(L), False)
        more = (4, C[1])
        self.assertIs(Walk.along(C, ("begin",)) == Walk.along(more, ("begin",)), False)

    def test_other_values(self):
        walk = Walk.along(C, ("begin",))
        for value in list(ODD[:-1]) + [("begin",), C, (C, ("begin",)), "walk of 1 steps", 1, walk.markings(), Walk]:
            if not isinstance(value, Walk):
                self.assertIs(walk == value, False, value)
                self.assertIs(value == walk, False, value)
                self.assertIs(walk != value, True, value)


class Any(Walks):

    def test_any_sequence_of_calls(self):
        chance = Random(11)
        for net in (F, C, L, P, TURN, PILE) + tuple(random_nets(25, 5, 6)):
            names, walk = (), Walk(net)
            for _ in range(40):
                names = self.step(chance, net, walk, names)
                self.shows(walk, net, names)

    def step(self, chance, net, walk, names):
        """Does something with the walk, right or wrong, and returns the run that it must have now."""
        some = tuple(chance.choice(net[1])[0] for _ in range(chance.randint(0, 3)))
        kind = chance.randrange(4)
        if kind == 0:
            many = chance.randint(-1, len(names) + 1)
            wrong = not 0 <= many <= len(names)
            result, expected = outcome(walk.back, many), names[:len(names) - many]
            raised = ("raised", "InvalidNumber", {"value": many})
        elif kind == 1:
            found = plain.follow(net, some, plain.first(net))
            wrong = not isinstance(found, list)
            result, expected, raised = outcome(walk.put, some), some, raised_at(found)
        else:
            found = plain.follow(net, some, walk.marking)
            wrong = not isinstance(found, list)
            result, expected, raised = outcome(walk.do, *some), names + some, raised_at(found)
        self.assertTrue(same(result, raised if wrong else ("returned", walk.marking)), (net, names, some))
        return names if wrong else expected


if __name__ == "__main__":
    unittest.main()
