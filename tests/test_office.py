"""Offices."""

import unittest
from random import Random

from caseflow.nets.walks import Walk
from caseflow.office.office import Office
from caseflow.readings.chances import chances_of, expected_cost
from caseflow.sound.papers import is_structure_paper
from caseflow.terms.terms import Do
from tests import plain, plain_editions, plain_library, plain_office, plain_readings
from tests.built import (
    EXACTLY_256, EXACTLY_257, GROW, LATE_218, LATE_259, LATE_LOOPS_155, LATE_LOOPS_80, LATE_RUN, LOOP_OF_100, LOOP_OF_101,
)
from tests.pools import LATE, NOT_SOUND, SOUND, SPLIT, TWINS, small, some
from tests.samples import (
    A, APART, B, C, D, F, L, ODD, OVERLAP, P, PILE, STILL, copy_of, in_time, label, outcome, same,
)

REFUSED = ("raised", "InvalidOperation", {})
SECONDS = 20


def told(office):
    """Returns all that an office tells of itself, as plain_office.PlainOffice does it."""
    cases = []
    for case in office.cases():
        cost, run = office.cheapest(case)
        cases.append((
            case, office.state(case), office.history(case), office.enabled(case), office.remaining(case), cost,
        ))
        edition, marking, _ = office.state(case)
        workflow, _, costs = office.editions()[edition]
        passed = plain.follow(workflow, run, marking)
        assert passed[-1] == plain.last(workflow), (workflow, marking, run)
        assert sum(plain_readings.of_run(workflow, plain_readings.costs_of(workflow, costs), run)) == cost
    return (
        office.editions(), office.edition, office.running, office.spent, len(office), str(office), office.log(),
        tuple(office.worklist()), tuple(cases),
    )


def plain_outcome(call, *args):
    try:
        return ("returned", call(*args))
    except plain_office.Refused as refused:
        return refused.told


def agree(result, expected):
    """Returns whether an outcome is as expected; what NotSound bears is looked at elsewhere."""
    if expected[:2] == ("raised", "NotSound"):
        return result[:2] == expected[:2]
    return same(result[:2], expected[:2]) and (len(expected) < 3 or list(result[2].items()) == list(expected[2].items()))


def assign(office, edition):
    office.edition = edition


def by_method(office, operation):
    """Performs an operation by its method."""
    word, *rest = operation
    if word == "publish":
        return office.publish(rest[0], chances=rest[1], costs=rest[2])
    if word == "current":
        return assign(office, rest[0])
    if word == "do":
        return office.do(rest[0], *rest[1])
    if word == "move":
        return office.move(rest[0], rest[1], places=rest[2])
    return getattr(office, word)(*rest)


def set_up():
    """Returns an office with two editions and three cases, one of them finished."""
    office = Office()
    office.publish(C)
    office.publish(F, costs=(0, 2, 1, 1, 1, 5))
    office.start("done")
    office.do("done", "begin", "again", "stop")
    assign(office, 1)
    office.start("fresh")
    office.start("paid")
    office.do("paid", "fork", "pay")
    return office


class Test(unittest.TestCase):

    def refuses(self, office, call, *args, **more):
        """Returns the outcome of a call that must change nothing."""
        before, copies = told(office), copy_of((args, more))
        redo = [office.twin()]
        result = outcome(call, *args, **more)
        self.assertEqual(result[0], "raised", (call, args))
        self.assertTrue(same(told(office), before), (call, args))
        self.assertTrue(same((args, more), copies))
        # What can be undone and redone has not changed, either.
        for name in ("redo", "undo"):
            one, other = office.twin(), redo[0].twin()
            while outcome(getattr(one, name))[0] == "returned":
                getattr(other, name)()
            self.assertEqual(outcome(getattr(other, name)), REFUSED)
            self.assertIs(one == other, True)
        return result


class Drawn(Test):
    """Drawn sequences of operations, compared with an office that works out everything anew."""

    def workflows(self, chance):
        pool = [C, P, A, F, TWINS, LATE, SPLIT] + list(small(some(SOUND, 40, 461), 5))
        return [chance.choice(pool) for _ in range(3)]

    def operation(self, chance, office, workflows):
        """Returns an operation, often one that can be performed."""
        word = chance.choice(("publish", "current", "start", "start", "do", "do", "do", "do", "do", "move", "move", "close"))
        if chance.random() < 0.9 and not office.editions():
            word = "publish"
        elif chance.random() < 0.9 and not office.cases():
            word = "start"
        case = chance.choice(("one", "two", "three", "four", None, "Bad"))
        if office.cases() and word != "start" and chance.random() < 0.9:
            case = chance.choice(office.cases())
        number = chance.randrange(-1, len(office.editions()) + 2) if chance.random() < 0.2 else chance.randrange(
            max(1, len(office.editions())))
        if word == "publish":
            workflow = chance.choice(workflows + [B, GROW, None] if chance.random() < 0.2 else workflows)
            steps = [step[0] for step in workflow[1]] if workflow else []
            costs = tuple(chance.randint(-(chance.random() < 0.02), 9) for _ in steps)
            chances = None
            if workflow in workflows:
                chances = chances_of(workflow, **{step: chance.randint(1, 4) for step in steps})
            return (word, workflow, chance.choice((None, chances)), chance.choice((None, costs)))
        if word == "current":
            return (word, number)
        if word in ("start", "close"):
            return (word, case)
        if word == "move":
            places = None
            if case in office.cases() and 0 <= number < len(office.editions()) and chance.random() < 0.6:
                old, new = office.editions()[office.state(case)[0]][0], office.editions()[number][0]
                places = [place if place < new[0] else None for place in range(old[0])]
                if chance.random() < 0.6:
                    places[chance.randrange(len(places))] = chance.choice((None, chance.randrange(new[0] + 1)))
                places = tuple(places)
            return (word, case, number, places)
        return (word, case, self.steps(chance, office, case))

    def steps(self, chance, office, case):
        """Returns some steps of the case, and sometimes a wrong one behind them."""
        if case not in office.cases():
            return ("any",) * chance.randint(0, 2)
        edition, marking, _ = office.state(case)
        workflow = office.editions()[edition][0]
        steps = ()
        for _ in range(chance.choice((0, 1, 2, 3, 6, 9))):
            enabled = plain.enabled(workflow, marking)
            if enabled:
                step = chance.choice(enabled)
                steps += (step[0],)
                marking = plain.done(marking, step)
        if chance.random() < 0.15:
            steps += (chance.choice((None, "nosuch", ["begin"], "again", 3)),)
        return steps

    def call(self, chance, office, other, workflows):
        """Makes one drawn call in both offices and returns both outcomes."""
        kind = chance.random()
        if kind < 0.13:
            name = chance.choice(("undo", "undo", "redo"))
            return outcome(getattr(office, name)), plain_outcome(getattr(other, name))
        if kind < 0.25:
            operations = []
            shadow = office.twin()
            for _ in range(chance.randint(0, 4)):
                operation = self.operation(chance, shadow, workflows)
                operations.append(operation)
                if outcome(shadow.apply, operation)[0] == "raised" and chance.random() < 0.7:
                    operations.pop()
            group = tuple(operations) if chance.random() < 0.97 else operations
            return outcome(office.apply_all, group), plain_outcome(other.apply_all, group)
        operation = self.operation(chance, office, workflows)
        performed = outcome(office.apply if chance.random() < 0.5 else lambda o: by_method(office, o), operation)
        return performed, plain_outcome(other.apply, operation)

    def test_sequences(self):
        counts = {}
        for seed in range(40):
            chance = Random(46200 + seed)
            workflows = self.workflows(chance)
            office, other = Office(), plain_office.PlainOffice()
            for number in range(50):
                result, expected = self.call(chance, office, other, workflows)
                self.assertTrue(agree(result, expected), (seed, number, result, expected))
                kind = result[1] if result[0] == "raised" else "returned"
                counts[kind] = counts.get(kind, 0) + 1
                if number % 5 == 4:
                    self.assertTrue(same(told(office), other.told()), (seed, number))
            again = Office.replayed(office.log())
            self.assertIs(again == office, True)
            self.assertTrue(same(told(again), told(office)))
            while outcome(again.undo)[0] == "returned":
                pass
            self.assertIs(again == Office(), True)
        for kind in ("returned", "InvalidOperation", "InvalidRun", "UnknownName", "InvalidNumber", "InvalidPlaces"):
            self.assertGreater(counts.get(kind, 0), 5, (kind, counts))

    def test_undone_and_redone(self):
        """After each undoing the office tells what it told before, and after redoing what it told then."""
        for seed in range(12):
            chance = Random(46300 + seed)
            workflows = self.workflows(chance)
            office = Office()
            for workflow in workflows:
                office.publish(workflow)
            seen = [told(office)]
            for _ in range(25):
                before = len(office.log())
                if chance.random() < 0.3:
                    shadow, group = office.twin(), []
                    for _ in range(4):
                        operation = self.operation(chance, shadow, workflows)
                        if outcome(shadow.apply, operation)[0] == "returned":
                            group.append(operation)
                    office.apply_all(tuple(group))
                else:
                    outcome(office.apply, self.operation(chance, office, workflows))
                if len(office.log()) > before:
                    seen.append(told(office))
            for state in reversed(seen[:-1]):
                office.undo()
                self.assertTrue(same(told(office), state))
            for state in seen[1:]:
                office.redo()
                self.assertTrue(same(told(office), state))
            self.assertEqual(outcome(office.redo), REFUSED)


class Beginning(Test):

    def test_at_first(self):
        office = Office()
        self.assertTrue(same(told(office), ((), None, 0, 0, 0, "office with 0 editions, 0 cases", (), (), ())))
        self.assertTrue(same([Office.MAX_EDITIONS, Office.MAX_CASES, office.MAX_CASES], [8, 20, 20]))
        for call in (office.undo, office.redo, lambda: office.start("one")):
            self.assertEqual(self.refuses(office, call), REFUSED)
        self.assertEqual(self.refuses(office, assign, office, 0), ("raised", "InvalidNumber", {"value": 0}))
        self.assertEqual([office.wanted(), office.wanted(least=0), office.wanted(enabled=None)], [(), (), ()])

    def test_str(self):
        office = Office()
        office.publish(C)
        self.assertEqual(str(office), "office with 1 editions, 0 cases")
        office.start("one")
        self.assertEqual(str(office), "office with 1 editions, 1 cases")
        self.assertEqual(str(set_up()), "office with 2 editions, 3 cases")
        self.assertEqual(len(set_up()), 3)


class Publishing(Test):

    def test_numbers(self):
        office = Office()
        for number in range(8):
            costs = (number, 1, 2)
            self.assertTrue(same(office.publish(C, costs=costs if number else None), number))
            self.assertEqual(office.edition, 0)
        self.assertEqual(self.refuses(office, office.publish, C), ("raised", "TooMany", {"limit": 8}))
        self.assertTrue(same(office.editions(), tuple((C, None, (n, 1, 2) if n else None) for n in range(8))))
        self.assertTrue(same(office.log(), tuple(("publish", C, None, (n, 1, 2) if n else None) for n in range(8))))
        # The eighth one was undone, so there can be another one.
        office.undo()
        self.assertEqual(office.publish(P, chances=((1, 3), (2, 3), (1, 1))), 7)

    def test_the_first_one_is_the_current_one(self):
        office = Office()
        office.publish(C)
        self.assertEqual(office.edition, 0)
        office.publish(P)
        self.assertEqual(office.edition, 0)
        office.undo()
        office.undo()
        self.assertEqual(office.edition, None)
        office.publish(P)
        self.assertEqual([office.edition, office.editions()], [0, ((P, None, None),)])

    def test_errors(self):
        for office in (set_up(), Office()):
            for value in [value for value in ODD if not plain.is_net(value) or plain.defects(value)] + [
                    PILE, OVERLAP, APART, STILL, list(C)]:
                result = outcome(office.publish, value, chances=3, costs=3)
                self.assertEqual(result, ("raised", "InvalidWorkflow", {}), value)
            for workflow in (B, L, GROW) + tuple(some(NOT_SOUND, 4, 464)):
                result = self.refuses(office, office.publish, workflow, chances=3, costs=3)
                self.assertEqual(result[:2], ("raised", "NotSound"))
                self.assertIs(is_structure_paper(workflow, result[2]["paper"]), True)
            for value in ODD:
                if value is not None and not plain_library.are_costs(C, value):
                    self.assertEqual(outcome(office.publish, C, chances=value, costs=3), ("raised", "InvalidChances", {}))
                    self.assertEqual(outcome(office.publish, C, costs=value), ("raised", "InvalidCosts", {}))
            self.assertEqual(len(office.editions()), 2 if office.log() else 0)

    def test_too_many(self):
        office = Office()
        for workflow, limit in ((EXACTLY_256, None), (EXACTLY_257, 256), (LOOP_OF_100, None), (LOOP_OF_101, 100)):
            if limit is None:
                self.assertEqual(outcome(office.publish, workflow)[0], "returned")
            else:
                self.assertEqual(self.refuses(office, office.publish, workflow), ("raised", "TooMany", {"limit": limit}))
        for _ in range(6):
            office.publish(C)
        # The number of editions comes before the size of the workflow, and behind the chances and costs.
        self.assertEqual(self.refuses(office, office.publish, EXACTLY_257), ("raised", "TooMany", {"limit": 8}))
        self.assertEqual(outcome(office.publish, EXACTLY_257, costs=()), ("raised", "InvalidCosts", {}))
        self.assertEqual(outcome(office.publish, EXACTLY_257, chances=()), ("raised", "InvalidChances", {}))

    def test_current(self):
        office = set_up()
        for value in ODD + (2, 3, -1):
            result = outcome(assign, office, value)
            if type(value) is int and 0 <= value < 2:
                self.assertEqual(office.edition, value)
            else:
                self.assertEqual(result[:2], ("raised", "InvalidNumber"), value)
                self.assertTrue(same(result[2]["value"], value) or result[2]["value"] is value)
        # Assigning the current edition again is an operation, too.
        office = set_up()
        assign(office, 1)
        self.assertEqual(office.log()[-1], ("current", 1))
        self.assertEqual(len(office.log()), len(set_up().log()) + 1)
        office.undo()
        assign(office, 0)
        office.start("more")
        self.assertEqual(office.state("more"), (0, (1, 0, 0), 0))
        for name in ("running", "spent"):
            with self.assertRaises(AttributeError):
                setattr(office, name, 0)


class Cases(Test):

    def test_names(self):
        office = set_up()
        for value in ODD + ("done", "One", "", "one two", "abcdefghi", b"one", Do("one"), Walk(C), office):
            if not plain_office.is_name(value) or value == "done":
                self.assertEqual(outcome(office.start, value), REFUSED, value)
        self.assertIsNone(office.start("abcdefgh"))
        self.assertEqual(office.cases(), ("abcdefgh", "done", "fresh", "paid"))

    def test_twenty(self):
        office = Office()
        office.publish(C)
        for k in range(20):
            office.start(label(k))
        self.assertEqual(self.refuses(office, office.start, "more"), ("raised", "TooMany", {"limit": 20}))
        # A name that cannot be taken comes first.
        self.assertEqual(self.refuses(office, office.start, "ab"), REFUSED)
        self.assertEqual(self.refuses(office, office.start, None), REFUSED)
        self.assertEqual(office.running, 20)
        office.do("ac", "begin", "stop")
        self.assertEqual([office.running, len(office)], [19, 20])
        self.assertEqual(self.refuses(office, office.start, "more"), ("raised", "TooMany", {"limit": 20}))
        office.close("ac")
        office.start("more")
        self.assertEqual([office.running, len(office), office.spent], [20, 20, 2])

    def test_closing(self):
        office = set_up()
        self.assertEqual([office.spent, office.running], [9, 2])
        self.assertTrue(same(office.close("done"), 3))
        self.assertEqual([office.spent, office.running, office.cases()], [9, 2, ("fresh", "paid")])
        # The name can be used again, and its history begins anew.
        office.start("done")
        self.assertEqual([office.state("done"), office.history("done")], [(1, plain.first(F), 0), (("start", 1),)])
        office.do("done", "fork", "check", "pass", "pay", "join")
        self.assertEqual([office.close("done"), office.spent], [10, 19])
        office.undo()
        office.undo()
        office.undo()
        office.undo()
        self.assertEqual(office.history("done"), (("start", 0), ("do", "begin"), ("do", "again"), ("do", "stop")))
        self.assertTrue(same(told(office), told(set_up())))

    def test_closing_what_cannot_be_closed(self):
        office = set_up()
        for case in ("fresh", "paid"):
            self.assertEqual(self.refuses(office, office.close, case), REFUSED)

    def test_unknown_names(self):
        office = set_up()
        for value in ODD + ("nosuch", "Done", "done ", ("done",), ["done"], {"done": 1}, office, Do("done")):
            if value == "done":
                continue
            for call in (
                office.close, office.do, lambda case: office.do(case, None), lambda case: office.move(case, None),
                lambda case: office.move(case, 0, places=3), office.state, office.history, office.enabled, office.remaining,
                office.cheapest, lambda case: office.apply(("do", case, ())), lambda case: office.apply(("close", case)),
                lambda case: office.apply_all((("start", "zz"), ("close", case))),
            ):
                result = outcome(call, value)
                self.assertEqual(result[:2], ("raised", "UnknownName"), (call, value))
                self.assertTrue(same(result[2]["name"], value) or result[2]["name"] is value)
        self.assertTrue(same(told(office), told(set_up())))


class Doing(Test):

    def test_steps(self):
        office = set_up()
        self.assertTrue(same(office.do("paid", "check", "back", "check", "pass", "join"), plain.last(F)))
        self.assertEqual(office.state("paid"), (1, plain.last(F), 6 + 2 + 0 + 2 + 1 + 1))
        self.assertEqual(office.enabled("paid"), ())
        self.assertEqual([office.remaining("paid"), office.cheapest("paid")], [(0, 1), (0, ())])

    def test_wrong_steps(self):
        office = set_up()
        for steps, at in (
            (("fork",), 0), (("check", "pay"), 1), (("check", "pass", "join", "join"), 3), (("nosuch",), 0),
            (("check", None), 1), ((["check"],), 0), (("check", ["back"], "back"), 1), ((("check",),), 0), ((True,), 0),
            (("check", "Back"), 1), (("check", {}), 1),
        ):
            self.assertEqual(self.refuses(office, office.do, "paid", *steps), ("raised", "InvalidRun", {"at": at}), steps)
            result = self.refuses(office, office.apply, ("do", "paid", steps))
            self.assertEqual(result, ("raised", "InvalidRun", {"at": at}))
        for value in ODD:
            if value != "check":
                self.assertEqual(outcome(office.do, "paid", value), ("raised", "InvalidRun", {"at": 0}), value)

    def test_no_steps(self):
        office = set_up()
        before = told(office)
        office.undo()
        for call in (lambda: office.do("paid"), lambda: office.apply(("do", "paid", ()))):
            self.assertTrue(same(call(), plain.first(F)))
        self.assertEqual(office.apply_all((("do", "paid", ()), ("do", "fresh", ()))), 2)
        self.assertEqual(office.apply_all(()), 0)
        # Nothing was performed, so what was undone can still be redone.
        office.redo()
        self.assertTrue(same(told(office), before))

    def test_costs_of_each_edition(self):
        office = Office()
        office.publish(C, costs=(1, 10, 100))
        office.publish(C, costs=(1000, 10 ** 4, 10 ** 5))
        office.start("one")
        office.do("one", "begin", "again")
        self.assertTrue(same(office.move("one", 1), (0, 0, 1)))
        office.do("one", "again", "again", "stop")
        self.assertEqual(office.state("one"), (1, (0, 1, 0), 102011))
        self.assertEqual(office.history("one"), (
            ("start", 0), ("do", "begin"), ("do", "again"), ("move", 1), ("do", "again"), ("do", "again"), ("do", "stop")))
        self.assertEqual(office.spent, 102011)

    def test_many_steps(self):
        office = Office()
        office.publish(C)
        office.start("one")
        self.assertEqual(office.do("one", "begin", *["again"] * 50000), (0, 0, 1))
        self.assertEqual([office.spent, len(office.history("one"))], [50001, 50002])

        def many():
            for _ in range(3000):
                office.do("one", "again")
            for _ in range(2999):
                office.undo()

        in_time(SECONDS, many)
        self.assertEqual([office.spent, len(office.history("one")), len(office.log())], [50002, 50003, 4])


class Moving(Test):

    def test_moves(self):
        office = set_up()
        self.assertEqual(self.refuses(office, office.move, "paid", 0), REFUSED)
        self.assertEqual(self.refuses(office, office.move, "paid", 0, places=(0, 1, 2, None, 2, 2, None)), REFUSED)
        self.assertTrue(same(office.move("fresh", 0), (1, 0, 0)))
        self.assertEqual(office.history("fresh"), (("start", 1), ("move", 0)))
        self.assertTrue(same(office.move("done", 1, places=(0, 1, None)), plain.last(F)))
        self.assertTrue(same(office.move("done", 0, places=(None, 2) + (None,) * 5), (0, 0, 1)))
        self.assertEqual(office.state("done"), (0, (0, 0, 1), 3))
        self.assertEqual(office.enabled("done"), ("again", "stop"))

    def test_a_move_that_changes_nothing(self):
        office = set_up()
        office.undo()
        self.assertTrue(same(office.move("fresh", 1), plain.first(F)))
        self.assertEqual(office.history("fresh"), (("start", 1), ("move", 1)))
        self.assertEqual(office.log()[-1], ("move", "fresh", 1, None))
        # It is an operation, so nothing can be redone.
        self.assertEqual(outcome(office.redo), REFUSED)

    def test_errors(self):
        office = set_up()
        right = (0, 1, 2, 2, 2, 2, 2)
        for value in ODD + (2, -1, 7):
            if not (type(value) is int and 0 <= value < 2):
                for places in (None, right, 3):
                    result = outcome(office.move, "paid", value, places=places)
                    self.assertEqual(result[:2], ("raised", "InvalidNumber"), value)
                    self.assertTrue(same(result[2]["value"], value) or result[2]["value"] is value)
        for value in ODD + ((0, 1, 2), (0, 1, 2, 2, 2, 2, 3), (0, 1, 2, 2, 2, 2, -1), (0, 1, 2, 2, 2, 2, True), list(right)):
            if value is not None and not plain_editions.are_places(F, C, value):
                for call in (lambda: office.move("paid", 0, places=value), lambda: office.apply(("move", "paid", 0, value))):
                    self.assertEqual(outcome(call), ("raised", "InvalidPlaces", {}), value)
        for places in (right, (None,) * 7, (0, 1, 2, 2, 2, 2, None), (2, 1, 0, 0, 0, 0, 1)):
            self.assertEqual(self.refuses(office, office.move, "paid", 0, places=places), REFUSED)

    def test_movable(self):
        office = set_up()
        for edition in range(2):
            for places in (None, (0, 1, 2), (0, 1, None), (0, 1, 2, 2, 2, 2, 2), (0, 1, 2, None, 2, 2, 2), (1, 0) + (None,) * 5,
                           3, (0, 1), [0, 1, 2], (0, 1, 6), (None,) * 3, (None,) * 7):
                expected = [
                    case for case in office.cases()
                    if outcome(office.twin().move, case, edition, places=places)[0] == "returned"
                ]
                self.assertTrue(same(office.movable(edition, places=places), tuple(expected)), (edition, places))
        self.assertEqual([office.movable(0), office.movable(1)], [("done", "fresh"), ("done", "fresh", "paid")])
        for value in ODD + (2, -1):
            for places in (None, 3):
                result = outcome(office.movable, value, places=places)
                if type(value) is int and 0 <= value < 2:
                    self.assertEqual(result[0], "returned")
                else:
                    self.assertEqual(result[:2], ("raised", "InvalidNumber"), value)
                    self.assertTrue(same(result[2]["value"], value) or result[2]["value"] is value)
        for value in ODD:
            self.assertEqual(outcome(office.movable, 0, places=value)[0], "returned")


class Groups(Test):

    def test_group(self):
        office = set_up()
        before = told(office)
        group = (("current", 0), ("start", "new"), ("do", "new", ("begin",)), ("do", "new", ()), ("close", "done"),
                 ("publish", P, None, (1, 2, 3)), ("move", "new", 0, None))
        self.assertTrue(same(office.apply_all(group), 7))
        self.assertEqual(office.log(), before[6] + group[:3] + group[4:])
        after = told(office)
        office.undo()
        self.assertTrue(same(told(office), before))
        office.redo()
        self.assertTrue(same(told(office), after))
        office.undo()
        office.undo()
        self.assertEqual(office.log(), before[6][:-1])

    def test_group_that_fails(self):
        office = set_up()
        office.undo()
        right = (("start", "new"), ("do", "fresh", ("fork",)), ("current", 0))
        for at in range(4):
            for wrong, error in (
                (("start", "done"), "InvalidOperation"), (("do", "fresh", ("fork", "join")), None),
                (("close", "nosuch"), "UnknownName"), (None, "InvalidOperation"), ((), "InvalidOperation"),
                (("undo",), "InvalidOperation"), (("current", 2), "InvalidNumber"), (["current", 0], "InvalidOperation"),
                (("move", "fresh", 0, 3), "InvalidPlaces"), (("publish", B, None, None), "NotSound"),
            ):
                group = right[:at] + (wrong,) + right[at:]
                result = self.refuses(office, office.apply_all, group)
                if error is not None:
                    self.assertEqual(result[1], error, group)
                else:
                    self.assertEqual(result, ("raised", "InvalidRun", {"at": 0 if at >= 2 else 1}))
        # The first operation that fails decides.
        self.assertEqual(outcome(office.apply_all, (("close", "x"), None)), ("raised", "UnknownName", {"name": "x"}))
        self.assertEqual(outcome(office.apply_all, (None, ("close", "x"))), REFUSED)
        # What was undone can still be redone.
        office.redo()
        self.assertTrue(same(told(office), told(set_up())))

    def test_no_tuples(self):
        office = set_up()
        for value in ODD + ([("start", "new")], {"start": "new"}, "start", office):
            if type(value) is not tuple:
                self.assertEqual(outcome(office.apply_all, value), REFUSED, value)
                self.assertEqual(outcome(Office.replayed, value), REFUSED, value)
            elif value != ():
                self.assertEqual(outcome(office.apply_all, value)[:2], REFUSED[:2], value)
                self.assertEqual(outcome(Office.replayed, value)[:2], REFUSED[:2], value)
        self.assertTrue(same(told(office), told(set_up())))

    def test_forms(self):
        office = set_up()
        for value in ODD + (
            ("publish", P), ("publish", P, None), ("publish", P, None, None, None), ("current",), ("current", 0, 0),
            ("start",), ("start", "new", 0), ("do", "paid"), ("do", "paid", "check"), ("do", "paid", ["check"]),
            ("do", "paid", None), ("do", "nosuch", None), ("do", "paid", ("check",), 0), ("move", "paid", 1),
            ("move", "paid", 1, None, 0), ("close",), ("close", "done", 0), ("Start", "new"), ("undo",), ("redo",), (None, "new"),
            (["start"], "new"), ["start", "new"], ("apply", ()), "start new", (("start", "new"),), ("wanted", {}),
        ):
            for call in (office.apply, lambda value: office.apply_all((value,)), lambda value: Office.replayed((value,))):
                self.assertEqual(outcome(call, value), REFUSED, value)
        self.assertTrue(same(told(office), told(set_up())))

    def test_apply_returns_what_the_methods_return(self):
        office, other = Office(), Office()
        for operation in (
            ("publish", C, None, None), ("publish", F, None, (0, 2, 1, 1, 1, 5)), ("current", 1), ("start", "one"),
            ("do", "one", ("fork", "pay", "check", "pass", "join")), ("move", "one", 0, (None, 1) + (None,) * 5),
            ("do", "one", ()), ("close", "one"),
        ):
            self.assertTrue(same(office.apply(operation), by_method(other, operation)), operation)
            self.assertIs(office == other, True)
            self.assertTrue(same(told(office), told(other)))

    def test_empty_groups_leave_nothing_to_undo(self):
        office = Office()
        self.assertEqual(office.apply_all(()), 0)
        self.assertEqual(outcome(office.undo), REFUSED)
        office.publish(C)
        office.start("one")
        office.apply_all((("do", "one", ()), ("do", "one", ())))
        office.undo()
        self.assertEqual(office.cases(), ())

    def test_replayed(self):
        office = set_up()
        again = Office.replayed(office.log())
        self.assertIs(type(again), Office)
        self.assertIs(again == office, True)
        # Each operation is undone by itself.
        for many in reversed(range(len(office.log()))):
            again.undo()
            self.assertEqual(len(again.log()), many)
        for log, error in (
            ((("start", "one"),), REFUSED), ((("publish", C, None, None), ("start", "one"), ("start", "one")), REFUSED),
            ((("publish", C, None, None), ("close", "x"), None), ("raised", "UnknownName", {"name": "x"})),
            ((("publish", B, None, None),), ("raised", "NotSound")), ((("current", 0),), ("raised", "InvalidNumber", {"value": 0})),
        ):
            self.assertEqual(outcome(Office.replayed, log)[:len(error)], error)
        self.assertIs(Office.replayed(()) == Office(), True)


class Redoing(Test):

    def test_what_deletes_it(self):
        """Each operation deletes what could be redone; what performs nothing does not."""
        for operation in (
            ("publish", P, None, None), ("current", 1), ("current", 0), ("start", "new"), ("do", "fresh", ("fork",)),
            ("move", "fresh", 1, None), ("close", "done"),
        ):
            office = set_up()
            office.undo()
            twin = office.twin()
            by_method(office, operation)
            self.assertEqual(self.refuses(office, office.redo), REFUSED, operation)
            # Undoing it does not bring the other one back.
            office.undo()
            self.assertIs(office == twin, True)
            office.redo()
            self.assertEqual(office.log()[-1], operation)
            office.undo()
            twin.redo()
            self.assertIs(twin == set_up(), True)
        for call in (
            lambda o: o.start("fresh"), lambda o: o.do("fresh"), lambda o: o.apply_all(()), lambda o: o.wanted(),
            lambda o: list(o.worklist()), lambda o: o.undo() or o.redo(), lambda o: o.publish(B), lambda o: assign(o, 9),
            lambda o: o.apply_all((("start", "new"), ("start", "new"))), lambda o: o.movable(0), lambda o: o.cheapest("paid"),
        ):
            office = set_up()
            office.undo()
            outcome(call, office)
            office.redo()
            self.assertIs(office == set_up(), True)

    def test_returns_nothing(self):
        office = set_up()
        self.assertIsNone(office.undo())
        self.assertIsNone(office.redo())


class Asking(Test):

    def test_wanted(self):
        office = set_up()
        for limits, expected in (
            ({}, ("done", "fresh", "paid")), ({"edition": 0}, ("done",)), ({"edition": 1}, ("fresh", "paid")),
            ({"enabled": "fork"}, ("fresh",)), ({"enabled": "again"}, ()), ({"enabled": None}, ()), ({"enabled": "nosuch"}, ()),
            ({"enabled": ["check"]}, ()), ({"enabled": ("check",)}, ()), ({"enabled": office}, ()), ({"enabled": 0}, ()),
            ({"least": 3}, ("done", "paid")), ({"least": 4}, ("paid",)), ({"most": 3}, ("done", "fresh")),
            ({"most": 0}, ("fresh",)), ({"most": -1}, ()), ({"least": 3, "most": 3}, ("done",)), ({"least": 4, "most": 3}, ()),
            ({"least": -10 ** 39, "most": 10 ** 39}, ("done", "fresh", "paid")), ({"edition": 1, "least": 1}, ("paid",)),
            ({"edition": 1, "enabled": "check", "least": 6, "most": 6}, ("paid",)), ({"edition": 0, "enabled": "check"}, ()),
        ):
            self.assertTrue(same(office.wanted(**limits), expected), limits)

    def test_wanted_errors(self):
        office = set_up()
        for value in ODD + (2, -1):
            for name, right in (
                ("edition", type(value) is int and 0 <= value < 2), ("least", type(value) is int), ("most", type(value) is int),
            ):
                result = outcome(office.wanted, **{name: value})
                if right:
                    self.assertEqual(result[0], "returned")
                else:
                    self.assertEqual(result[:2], ("raised", "InvalidNumber"), (name, value))
                    self.assertTrue(same(result[2]["value"], value) or result[2]["value"] is value)
            self.assertEqual(outcome(office.wanted, enabled=value)[0], "returned")
            for name in ("case", "cost", "Least", "limits", "editions"):
                self.assertEqual(outcome(office.wanted, **{name: value}), REFUSED)
        for limits, error in (
            ({"least": None, "edition": None}, ("raised", "InvalidNumber", {"value": None})),
            ({"most": "m", "least": "l", "edition": "e"}, ("raised", "InvalidNumber", {"value": "e"})),
            ({"most": "m", "least": "l"}, ("raised", "InvalidNumber", {"value": "l"})),
            ({"most": "m", "least": "l", "edition": 1}, ("raised", "InvalidNumber", {"value": "l"})),
            ({"most": True, "enabled": None}, ("raised", "InvalidNumber", {"value": True})),
            ({"most": "m", "other": 1}, REFUSED), ({"edition": 9, "other": 1, "least": None}, REFUSED),
        ):
            self.assertEqual(outcome(office.wanted, **limits), error, limits)

    def test_worklist(self):
        office = set_up()
        self.assertTrue(same(list(office.worklist()), [("fresh", 0, ("fork",)), ("paid", 1, ("check",))]))
        office.do("fresh", "fork", "check")
        office.start("again")
        self.assertTrue(same(tuple(office.worklist()), (
            ("again", 0, ("fork",)), ("fresh", 2, ("pay",)), ("fresh", 3, ("back", "pass")), ("paid", 1, ("check",)))))
        found = office.worklist()
        self.assertEqual([next(found), next(found)], [("again", 0, ("fork",)), ("fresh", 2, ("pay",))])

    def test_equal_futures(self):
        """Cases whose runs belong to the same case of the workflow have the same future."""
        office = Office()
        office.publish(F, costs=(3, 2, 1, 4, 1, 5))
        for name, run in (("one", ("fork", "pay", "check")), ("two", ("fork", "check", "pay"))):
            office.start(name)
            office.do(name, *run)
        self.assertEqual(office.state("one"), office.state("two"))
        self.assertEqual(office.remaining("one"), office.remaining("two"))
        self.assertEqual(office.cheapest("one")[0], office.cheapest("two")[0])

    def test_remaining_at_first(self):
        for workflow in some(SOUND, 30, 465) + [F, D]:
            office = Office()
            costs = tuple(range(len(workflow[1])))
            office.publish(workflow, costs=costs)
            office.start("one")
            self.assertTrue(same(office.remaining("one"), expected_cost(workflow, costs=costs)))

    def test_markings_from_the_case_on(self):
        """The limits count what the first order meets from the marking of the case on."""
        for workflow, limits in (
            (LATE_259, {"remaining": 256, "cheapest": 256}), (LATE_218, {}), (LATE_LOOPS_155, {"remaining": 100}),
            (LATE_LOOPS_80, {}),
        ):
            office = Office()
            office.publish(workflow)
            for name in ("remaining", "cheapest"):
                case = name[:8]
                office.start(case)
                self.assertEqual(outcome(getattr(office, name), case)[0], "returned")
                office.do(case, *LATE_RUN)
                result = in_time(SECONDS, lambda: outcome(getattr(office, name), case))
                if name in limits:
                    self.assertEqual(result, ("raised", "TooMany", {"limit": limits[name]}))
                else:
                    self.assertEqual(result[0], "returned")
                self.assertEqual(outcome(getattr(office, name), "x"), ("raised", "UnknownName", {"name": "x"}))

    def test_large_workflows(self):
        for workflow in (EXACTLY_256, LOOP_OF_100, LATE_218, LATE_LOOPS_80):
            office = Office()
            office.publish(workflow)
            office.start("one")
            while office.enabled("one"):
                marking = office.state("one")[1]
                cost, run = in_time(SECONDS, lambda: office.cheapest("one"))
                self.assertEqual([cost, plain.follow(workflow, run, marking)[-1]], [len(run), plain.last(workflow)])
                expected = plain_office.remaining(workflow, None, None, marking) if len(run) < 9 else None
                if expected is not None:
                    self.assertTrue(same(office.remaining("one"), expected))
                office.do("one", *run[:3])


class Comparing(Test):

    def test_equal(self):
        office = set_up()
        self.assertIs(office == set_up(), True)
        self.assertIs(office != set_up(), False)
        self.assertIs(office == office.twin(), True)
        for value in ODD + ("office", Do("a"), str(office), office.log(), Office):
            self.assertIs(office == value, False)

    def test_one_thing_otherwise(self):
        def office(costs=(1, 1, 1), current=0, steps=("begin",), name="one", more=()):
            found = Office()
            found.publish(C, costs=costs)
            found.publish(C, costs=(1, 1, 1))
            found.edition = current
            found.start(name)
            found.do(name, *steps)
            for operation in more:
                found.apply(operation)
            return found

        plain_one = office()
        self.assertIs(plain_one == office(), True)
        for other in (
            office(costs=None), office(current=1), office(steps=()), office(steps=("begin", "again")), office(name="two"),
            office(more=(("current", 1),)), office(more=(("move", "one", 0, None),)), office(more=(("start", "two"),)),
            office(more=(("publish", C, None, None),)), office(more=(("move", "one", 1, None),)), office(costs=(1, 0, 1)),
            office(more=(("start", "two"), ("do", "two", ("begin", "stop")), ("close", "two"))),
        ):
            self.assertIs(plain_one == other, False)
            self.assertIs(other == plain_one, False)
        # How it came to this does not matter.
        for more in ((("current", 1), ("current", 0)), (("current", 0),), (("start", "two"),)):
            other = office(more=more)
            if len(more) == 1 and more[0][0] == "start":
                other.undo()
            self.assertIs(plain_one == other, True)
        # Only the spent sum differs.
        free = office(costs=(0, 0, 0), more=(("start", "two"), ("do", "two", ("begin", "stop")), ("close", "two")))
        self.assertIs(free == office(costs=(0, 0, 0)), True)

    def test_histories_and_costs(self):
        def office(steps):
            found = Office()
            found.publish(P, costs=(1, 1, 1))
            found.start("one")
            found.do("one", *steps)
            return found

        # Edition, marking and cost are equal.
        self.assertIs(office(("card",)) == office(("cash",)), False)
        self.assertIs(office(("card",)) == office(("card",)), True)


class Copies(Test):

    def test_what_is_passed_can_be_changed_afterwards(self):
        office = set_up()
        before = told(office)
        places, limits = [0, 1, 2], {"edition": 1}
        outcome(office.move, "done", 0, places=places)
        office.wanted(**limits)
        outcome(office.publish, list(C), chances=[], costs=[1, 2])
        operations = [("start", "new")]
        outcome(office.apply_all, operations)
        places.clear()
        operations.clear()
        limits.clear()
        self.assertTrue(same(told(office), before))

    def test_an_error_keeps_a_copy(self):
        office = set_up()
        value = ["done", ["a"]]
        results = [outcome(office.state, value), outcome(assign, office, value), outcome(office.wanted, least=value)]
        value[1].append("b")
        for result in results:
            self.assertTrue(same(list(result[2].values())[0], ["done", ["a"]]))

    def test_a_twin_is_independent(self):
        office = set_up()
        twin = office.twin()
        twin.do("fresh", "fork")
        twin.start("new")
        self.assertTrue(same(told(office), told(set_up())))
        office.undo()
        office.start("other")
        self.assertEqual(twin.cases(), ("done", "fresh", "new", "paid"))
        twin.undo()
        twin.undo()
        self.assertIs(twin == set_up(), True)

    def test_arguments_are_not_changed(self):
        for value in (["done"], {"done": ["begin"]}, ("do", "done", ["begin"]), [("start", ["new"])], [[0, 1], [2]]):
            before = copy_of(value)
            office = set_up()
            for call in (
                office.start, office.close, office.do, lambda v: office.do("paid", v), office.apply, office.apply_all,
                lambda v: office.move("paid", v), lambda v: office.move("paid", 0, places=v), office.state, office.history,
                lambda v: office.movable(v), lambda v: office.movable(0, places=v), lambda v: office.wanted(enabled=v),
                lambda v: office.wanted(edition=v), lambda v: assign(office, v), Office.replayed, office.publish,
                lambda v: office.publish(C, chances=v), lambda v: office.publish(C, costs=v),
            ):
                outcome(call, value)
                self.assertTrue(same(value, before))
            self.assertTrue(same(told(office), told(set_up())))


if __name__ == "__main__":
    unittest.main()
