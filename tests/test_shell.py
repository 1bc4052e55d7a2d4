"""Shells."""

import unittest
from random import Random

from caseflow.editions.markings import occurs
from caseflow.nets.walks import Walk
from caseflow.office.office import Office
from caseflow.sound.faults import is_fault
from caseflow.terms.terms import Do, Term
from caseflow.text.formats import (
    format_fraction, format_names, format_net, parse_names, parse_net,
)
from caseflow.text.shell import Shell
from tests import plain, plain_terms
from tests.built import EXACTLY_257, FAULT_BEHIND_4096, FAULT_BEHIND_4097, GROW, LOOP_OF_101
from tests.pools import NOT_SOUND, SOUND, small, some
from tests.samples import (
    APART, B, C, F, L, ODD, OVERLAP, P, PILE, STILL, in_time, outcome, same,
)
from tests.test_office import assign, told

NO_COMMAND = ("raised", "InvalidCommand", {})
NO_TEXT = ("raised", "ParseError", {})
REFUSED = ("raised", "InvalidOperation", {})
SECONDS = 20
WORDS = {
    "publish": None, "sound": None, "costs": (1, None), "chances": (1, None), "term": (1, None), "current": (1, 1),
    "start": (1, 1), "undo": (0, 0), "redo": (0, 0), "do": (2, None), "move": (2, 2), "close": (1, 1), "cases": (0, 0),
    "enabled": (1, 1), "state": (1, 1), "expected": (1, 1), "cheapest": (1, 1), "occurs": (2, 2),
}


def publish(net):
    return "publish\n" + format_net(net)


def set_up():
    """Returns a shell with two editions and two cases, one of them finished."""
    shell = Shell()
    shell.run_all(
        publish(C), "costs 0 2 1 1 1 5", publish(F), "costs -", "start done", "do done begin again stop", "current 1",
        "start paid", "do paid fork pay",
    )
    return shell


def all_of(shell):
    return (told(shell.office()), len(shell), str(shell))


class Test(unittest.TestCase):

    def refuses(self, shell, command):
        """Returns the outcome of a command that must change nothing."""
        before = all_of(shell)
        result = outcome(shell.run, command)
        self.assertEqual(result[0], "raised", command)
        self.assertTrue(same(all_of(shell), before), command)
        return result


class Commands(Test):

    def test_each_command(self):
        shell = Shell()
        for command, answer in (
            ("cases", "-"), (publish(C), "0"), ("costs 0 2 1 1 1 5", "ok"), (publish(F), "1"), ("costs -", "ok"),
            ("chances 1/3 2/3 1/1", "ok"), (publish(P), "2"), ("chances -", "ok"), ("current 1", "ok"), ("start one", "ok"),
            ("start two", "ok"), ("cases", "one two"), ("state one", "1 1,0,0,0,0,0,0 0"), ("enabled one", "fork"),
            ("do one fork pay", "0,0,1,0,0,0,1"), ("state one", "1 0,0,1,0,0,0,1 6"), ("expected one", "6/1"),
            ("cheapest one", "4 check pass join"), ("do one -", "0,0,1,0,0,0,1"), ("move two 0", "1,0,0"),
            ("do two begin again stop", "0,1,0"), ("enabled two", "-"), ("cheapest two", "0 -"), ("expected two", "0/1"),
            ("undo", "ok"), ("state two", "0 1,0,0 0"), ("redo", "ok"), ("close two", "3"), ("cases", "one"),
            ("occurs 0 0,0,1", "yes"), ("occurs 0 1,0,1", "no"), ("occurs 2 0,0,1", "yes"), ("occurs 0 0,0,1000000000", "no"),
            ("current 2", "ok"), ("start three", "ok"), ("expected three", "2/1"), ("do three cash", "0,0,1"),
            ("sound\n" + format_net(C), "sound"), ("sound\n" + format_net(F), "sound"),
            ("term seq ( alt ( card ; cash ) ; ship )", format_net(P)), ("term a", "places 2\na 0 > 1"),
            ("term alt ( b ; a )", "places 2\na 0 > 1\nb 0 > 1"),
        ):
            self.assertTrue(same(shell.run(command), answer), command)
        self.assertEqual([len(shell), str(shell)], [42, "shell with 42 answers"])

    def test_words(self):
        shell = set_up()
        for word in WORDS:
            for other in (word.upper(), word.title(), word[:-1], word + "s", " " + word, "\n" + word, word + ":", "x" + word):
                for rest in ("", " one", "\nplaces 3", " -"):
                    if other not in WORDS and (other + rest).split("\n")[0].split(" ")[0] not in WORDS:
                        self.assertEqual(self.refuses(shell, other + rest), NO_COMMAND, other + rest)
        for command in ODD + ("", " ", "\n", "x" * 100000, b"cases", ("cases",), ["cases"], {"cases": 1}, Do("cases"), shell,
                              Walk(C), "\u20ac", "\x00", "cases\x00", "cases\t", "cases\r\n", "do\u00a0one -", "help", "-"):
            self.assertEqual(outcome(shell.run, command), NO_COMMAND, command)

    def test_what_stands_behind_the_word(self):
        shell = set_up()
        for word in WORDS:
            for rest in ("\tone", ":", "\rone", "\x00", "\u00a0one", "\x0b", "\x0c"):
                self.assertEqual(self.refuses(shell, word + rest), NO_COMMAND, word + rest)
            for rest in ("one", "one two", "- -", "", "places 3\na 0 > 1"):
                wrong = " " if WORDS[word] is None else "\n"
                self.assertEqual(self.refuses(shell, word + wrong + rest), NO_COMMAND, (word, rest))
        for word in ("publish", "sound"):
            self.assertEqual(self.refuses(shell, word), NO_COMMAND)
            for rest in ("", "\n" + format_net(C), format_net(C) + "\n", " " + format_net(C), "places 3", "-", format_net(C) + " "):
                self.assertEqual(self.refuses(shell, word + "\n" + rest), NO_TEXT, (word, rest))

    def test_numbers_of_parts(self):
        shell = set_up()
        parts = {"do": ["paid", "check"], "move": ["done", "1"], "occurs": ["0", "0,0,1"], "current": ["0"], "costs": ["1"],
                 "chances": ["1/1"], "term": ["a"], "start": ["new"], "close": ["done"]}
        for word, limits in WORDS.items():
            if limits is None:
                continue
            least, most = limits
            right = parts.get(word, ["paid"] * least)
            for many in range(6):
                some_parts = (right + ["x"] * 6)[:many]
                result = outcome(Shell().run, " ".join([word] + some_parts))
                if many < least or (most is not None and many > most):
                    self.assertEqual(result, NO_COMMAND, (word, many))
                    self.assertEqual(self.refuses(shell, " ".join([word] + some_parts)), NO_COMMAND)
                    self.assertEqual(self.refuses(shell, " ".join([word] + [""] * many)), NO_COMMAND)
                else:
                    self.assertNotEqual(result, NO_COMMAND, (word, many))
            # Two spaces together, or one at the end, make an empty part.
            if most is not None:
                self.assertEqual(self.refuses(shell, " ".join([word] + right + [""])), NO_COMMAND, word)
                self.assertEqual(self.refuses(shell, " ".join([word, ""] + right)), NO_COMMAND, word)
            for at in range(least):
                empty = right[:at] + [""] + right[at + 1:]
                self.assertEqual(self.refuses(shell, " ".join([word] + empty)), NO_TEXT, word)
        for command in ("costs ", "chances ", "term ", "do paid ", "do  check", "do paid check ", "do paid  check", "costs 1  2",
                        "costs 1 ", "chances  1/1", "term a ", "term  a", "start ", "move paid ", "move  0", "occurs 0 ",
                        "costs  ", "do  "):
            self.assertEqual(self.refuses(shell, command), NO_TEXT, command)
        for command in ("undo ", "redo ", "cases ", "cases  ", "undo one", "redo -", "cases -", "state", "state ", "state paid "):
            expected = NO_TEXT if command == "state " else NO_COMMAND
            self.assertEqual(self.refuses(shell, command), expected, command)

    def test_parts_that_are_not_written_as_they_must_be(self):
        shell = set_up()
        names = ("Paid", "paid1", "abcdefghi", "paid\n", "pa-id", "\u00e9", "-", "1", "paid\t", "[]", "paid,done")
        for word in ("start", "close", "enabled", "state", "expected", "cheapest"):
            for name in names:
                self.assertEqual(self.refuses(shell, word + " " + name), NO_TEXT, (word, name))
        for name in names:
            self.assertEqual(self.refuses(shell, "do " + name + " check"), NO_TEXT)
            self.assertEqual(self.refuses(shell, "move " + name + " 0"), NO_TEXT)
        numbers = ("", "a", "+1", "01", "00", "-0", "--1", "1.0", "1_0", "\u0661", "1,", "1/1", "-", "0x1", " ", "1\n", "9" * 401)
        for number in numbers:
            if number != " ":
                self.assertEqual(self.refuses(shell, "current " + number), NO_TEXT, number)
                self.assertEqual(self.refuses(shell, "move paid " + number), NO_TEXT, number)
                self.assertEqual(self.refuses(shell, "occurs " + number + " 0,0,1"), NO_TEXT, number)
                if number != "-":
                    self.assertEqual(self.refuses(shell, "costs " + number), NO_TEXT, number)
            self.assertEqual(self.refuses(shell, "costs 1 " + number), NO_TEXT, number)
        for text in ("0,0,-1", "-1", "0,,1", ",0", "0,", "a", "0,01", "+0", "-0", "1_0", "\u0661", "-", "0;1", "9" * 401):
            self.assertEqual(self.refuses(shell, "occurs 0 " + text), NO_TEXT, text)
            # The text comes before the number of the edition.
            self.assertEqual(self.refuses(shell, "occurs 9 " + text), NO_TEXT, text)
        for text in ("1", "1/0", "2/4", "1/2 1", "1/2,1/2", "a/b", "1/2 ", "-/1", "01/2", "+1/2", "1/-2", "- 1/2", "1/2 -"):
            self.assertEqual(self.refuses(shell, "chances " + text), NO_TEXT, text)
        for text in ("1 -", "- 1", "- -", "1 a", "1,2"):
            self.assertEqual(self.refuses(shell, "costs " + text), NO_TEXT, text)
        for text in ("check -", "- check", "Check", "check,pass", "check  pass", "check\npass", "abcdefghi", "1"):
            self.assertEqual(self.refuses(shell, "do paid " + text), NO_TEXT, text)
            # It comes before the name of the case.
            self.assertEqual(self.refuses(shell, "do nosuch " + text), NO_TEXT, text)
        for text in ("seq ( a )", "seq ( a ; a )", "A", "seq", "a b", "( a )", "seq ( a ; b ) c"):
            result = outcome(shell.run, "term " + text)
            self.assertEqual(result[0] if text == "seq" else result, "returned" if text == "seq" else NO_TEXT, text)


class Errors(Test):

    def test_errors_of_the_methods(self):
        shell = set_up()
        for command, error in (
            ("current 2", ("raised", "InvalidNumber", {"value": 2})), ("current -1", ("raised", "InvalidNumber", {"value": -1})),
            ("start paid", REFUSED), ("do nosuch check", ("raised", "UnknownName", {"name": "nosuch"})),
            ("do paid join", ("raised", "InvalidRun", {"at": 0})), ("do paid check pay", ("raised", "InvalidRun", {"at": 1})),
            ("do nosuch -", ("raised", "UnknownName", {"name": "nosuch"})), ("move paid 0", REFUSED),
            ("move paid 2", ("raised", "InvalidNumber", {"value": 2})), ("move x 2", ("raised", "UnknownName", {"name": "x"})),
            ("close paid", REFUSED), ("close x", ("raised", "UnknownName", {"name": "x"})), ("redo", REFUSED),
            ("enabled x", ("raised", "UnknownName", {"name": "x"})), ("state x", ("raised", "UnknownName", {"name": "x"})),
            ("expected x", ("raised", "UnknownName", {"name": "x"})), ("cheapest x", ("raised", "UnknownName", {"name": "x"})),
            ("occurs 2 0,0,1", ("raised", "InvalidNumber", {"value": 2})), ("occurs -1 0", ("raised", "InvalidNumber", {"value": -1})),
            ("occurs 0 0,0", ("raised", "InvalidMarking", {})), ("occurs 0 0,0,1000000001", ("raised", "InvalidMarking", {})),
            ("occurs 2 0", ("raised", "InvalidNumber", {"value": 2})), ("publish\n" + format_net(PILE), ("raised", "InvalidWorkflow", {})),
            ("sound\n" + format_net(OVERLAP), ("raised", "InvalidWorkflow", {})), (publish(EXACTLY_257), ("raised", "TooMany", {"limit": 256})),
            (publish(LOOP_OF_101), ("raised", "TooMany", {"limit": 100})),
        ):
            self.assertTrue(same(self.refuses(shell, command), error), command)
        self.assertEqual(self.refuses(Shell(), "undo"), REFUSED)
        self.assertEqual(self.refuses(Shell(), "start one"), REFUSED)
        self.assertEqual(self.refuses(shell, publish(B))[:2], ("raised", "NotSound"))
        for net in (STILL, APART, PILE):
            self.assertEqual(self.refuses(shell, "sound\n" + format_net(net)), ("raised", "InvalidWorkflow", {}))

    def test_great_integers(self):
        shell = set_up()
        great = "9" * 400
        for number in (great, "-" + great):
            value = int(number)
            for command in ("current " + number, "move paid " + number, "occurs " + number + " 0,0,1"):
                self.assertEqual(self.refuses(shell, command), ("raised", "InvalidNumber", {"value": value}))
        self.assertEqual(self.refuses(shell, "occurs 0 0,0," + great), ("raised", "InvalidMarking", {}))
        self.assertEqual(shell.run("costs " + great + " -5 0"), "ok")
        self.assertEqual(self.refuses(shell, publish(C)), ("raised", "InvalidCosts", {}))
        self.assertEqual(shell.run("costs -"), "ok")
        self.assertEqual(shell.run("chances " + great + "/7 1/1 0/1"), "ok")
        self.assertEqual(self.refuses(shell, publish(C)), ("raised", "InvalidChances", {}))

    def test_numbers_in_answers(self):
        """No answer of the table has a number of more than 400 digits, so the text of a fraction is looked at."""
        shell = Shell()
        net = plain_terms.workflow(("seq",) + tuple(("alt", ("do", "a" + c), ("do", "b" + c)) for c in "abcdefgh"))
        shell.run_all(publish(net), "start one")
        self.assertEqual(shell.run("expected one"), "8/1")
        self.assertEqual(outcome(format_fraction, (10 ** 400, 1)), ("raised", "TooMany", {"limit": 400}))
        # A loop that is left with a chance of 1 / 10 ** 6 makes numbers longer.
        told_of = ("do", "x")
        for k in range(7):
            told_of = ("loop", "e" + "abcdefg"[k], "g" + "abcdefg"[k], "l" + "abcdefg"[k], told_of)
        net = plain_terms.workflow(told_of)
        chances = ["999999/1000000" if step[0][0] == "g" else "1/1000000" if step[0][0] == "l" else "1/1" for step in net[1]]
        shell.run_all("chances " + " ".join(chances), publish(net), "current 1", "start two")
        answer = shell.run("expected two")
        self.assertGreater(len(answer), 40)
        self.assertEqual(answer, format_fraction(shell.office().remaining("two")))

    def test_too_many_digits(self):
        class Far(Office):
            def remaining(self, case):
                return (10 ** 400 if case == "far" else 10 ** 399, 1)

        shell = set_up()
        shell._office = Far()
        self.assertEqual(outcome(shell.run, "expected far"), ("raised", "TooMany", {"limit": 400}))
        self.assertEqual(len(shell), 9)
        self.assertEqual(shell.run("expected near"), "1" + "0" * 399 + "/1")

    def test_run_all(self):
        shell = Shell()
        self.assertTrue(same(shell.run_all(), ()))
        self.assertTrue(same(shell.run_all(publish(C), "start one"), ("0", "ok")))
        self.assertEqual(
            outcome(shell.run_all, "do one begin", "do one begin", "do one stop"), ("raised", "InvalidRun", {"at": 0})
        )
        # What came before the wrong command remains.
        self.assertEqual([len(shell), shell.run("state one")], [3, "0 0,0,1 1"])
        self.assertEqual(outcome(shell.run_all, "cases", None, "undo"), NO_COMMAND)
        self.assertEqual([len(shell), shell.run("state one")], [5, "0 0,0,1 1"])


class Publishing(Test):

    def test_costs_and_chances_are_kept(self):
        shell = Shell()
        half = ((1, 2), (1, 1), (1, 2))
        third = ((1, 3), (1, 1), (2, 3))
        shell.run_all(
            publish(C), "costs 1 2 3", publish(C), publish(C), "chances 1/3 1/1 2/3", publish(C), "costs -", publish(C),
            "chances 1/2 1/1 1/2", "costs 0 0 0", publish(C), "chances -", "costs -", publish(C),
        )
        self.assertTrue(same(shell.office().editions(), (
            (C, None, None), (C, None, (1, 2, 3)), (C, None, (1, 2, 3)), (C, third, (1, 2, 3)), (C, third, None),
            (C, half, (0, 0, 0)), (C, None, None),
        )))

    def test_what_does_not_fit(self):
        shell = Shell()
        for command in ("costs 1", "costs 1 2 3 4", "costs -1 0 0", "costs 1000000001 0 0"):
            self.assertEqual(shell.run(command), "ok")
            self.assertEqual(self.refuses(shell, publish(C)), ("raised", "InvalidCosts", {}), command)
        shell.run("costs -")
        for command in ("chances 1/2", "chances 1/2 1/2 1/2", "chances 0/1 1/1 1/1", "chances -1/2 1/1 3/2", "chances 7/3 5/2 1/1 1/1"):
            self.assertEqual(shell.run(command), "ok")
            self.assertEqual(self.refuses(shell, publish(C)), ("raised", "InvalidChances", {}), command)
            # The net is looked at first.
            self.assertEqual(self.refuses(shell, publish(B))[1], "NotSound")
            self.assertEqual(self.refuses(shell, publish(PILE))[1], "InvalidWorkflow")
            self.assertEqual(self.refuses(shell, "publish\nplaces 3"), NO_TEXT)
        shell.run("chances -")
        self.assertEqual(shell.run(publish(C)), "0")
        # A wrong command leaves them as they are.
        shell.run("costs 1 2 3")
        self.refuses(shell, "costs 1 2 x")
        self.refuses(shell, "costs")
        self.refuses(shell, "chances 2/4")
        self.assertEqual(shell.run(publish(C)), "1")
        self.assertEqual(shell.office().editions()[1], (C, None, (1, 2, 3)))

    def test_eight(self):
        shell = Shell()
        self.assertEqual(shell.run_all(*[publish(C)] * 8), tuple("01234567"))
        self.assertEqual(self.refuses(shell, publish(C)), ("raised", "TooMany", {"limit": 8}))


class Sound(Test):

    def test_faults(self):
        shell = Shell()
        kinds = {"sound": 0, "left": 0, "empty": 0}
        for net in [B, L, GROW, F, C] + some(NOT_SOUND, 60, 491) + some(SOUND, 10, 492):
            answer = shell.run("sound\n" + format_net(net))
            kind, *rest = answer.split(" ")
            kinds[kind] += 1
            if kind == "left":
                self.assertIs(is_fault(net, ("left", parse_names(" ".join(rest)))), True, (net, answer))
            if kind == "empty":
                places = tuple(map(int, rest[0].split(",")))
                self.assertIs(is_fault(net, ("empty", parse_names(" ".join(rest[1:])), places)), True, (net, answer))
        self.assertGreater(min(kinds.values()), 4)
        self.assertEqual(in_time(SECONDS, lambda: shell.run("sound\n" + format_net(FAULT_BEHIND_4096)))[:4], "left")
        self.assertEqual(
            in_time(SECONDS, lambda: outcome(shell.run, "sound\n" + format_net(FAULT_BEHIND_4097))),
            ("raised", "TooMany", {"limit": 4096}),
        )

    def test_a_fault_at_once(self):
        # Both steps wait for a place that only they fill.
        net = (4, (("a", (0, 2), (3,)), ("b", (3,), (1, 2))))
        self.assertEqual(plain.defects(net), ())
        answer = Shell().run("sound\n" + format_net(net))
        self.assertEqual(answer.split(" ")[2], "-")
        self.assertIs(is_fault(net, ("empty", (), tuple(map(int, answer.split(" ")[1].split(","))))), True)

    def test_terms(self):
        shell = Shell()
        chance = Random(493)
        for description in plain_terms.drawn_terms(chance, 80):
            text = plain_terms.text(description)
            net = plain_terms.workflow(description)
            result = outcome(shell.run, "term " + text)
            if net[0] > 30:
                self.assertEqual(result, ("raised", "TooMany", {"limit": 30}))
            else:
                self.assertTrue(same(parse_net(result[1]), net))
                self.assertEqual(result[1], format_net(Term.read(text).workflow()))

    def test_occurs(self):
        shell = Shell()
        chance = Random(494)
        pool = some(small(SOUND, 6), 8, 495)
        for net in pool:
            shell.run(publish(net))
        for _ in range(200):
            at = chance.randrange(8)
            marking = tuple(chance.choice((0, 0, 1, 1, 2)) for _ in range(pool[at][0]))
            answer = shell.run("occurs {} {}".format(at, ",".join(map(str, marking))))
            self.assertEqual(answer, "yes" if occurs(pool[at], marking) else "no")


class Comparing(Test):

    def test_equal(self):
        shell = set_up()
        self.assertIs(shell == set_up(), True)
        self.assertIs(Shell() == Shell(), True)
        self.assertIs(shell == Shell(), False)
        for value in ODD + (shell.office(), str(shell), Do("a"), Walk(C), Shell, "cases"):
            self.assertIs(shell == value, False)
            self.assertIs(shell != value, True)
        for command in ("cases", "costs 1 2 3", "chances 1/2", "start new", "do paid check", "undo", "current 0"):
            other = set_up()
            other.run(command)
            self.assertIs(shell == other, False, command)

    def test_one_thing_otherwise(self):
        def shell(*commands):
            found = Shell()
            found.run_all(publish(C), *commands)
            return found

        # The numbers of answers are equal, and all else but one thing.
        one = shell("costs -", "chances -", "cases")
        self.assertIs(one == shell("cases", "cases", "cases"), True)
        self.assertIs(one == shell("costs 1 2 3", "costs -", "chances -"), True)
        self.assertIs(one == shell("costs 1 2 3", "chances -", "cases"), False)
        self.assertIs(one == shell("costs -", "chances 1/2", "cases"), False)
        self.assertIs(one == shell("start one", "cases", "cases"), False)
        self.assertIs(one == shell("start one", "undo", "cases"), True)
        self.assertIs(one == shell("cases", "cases"), False)
        self.assertIs(shell("costs 1 2 3", "cases") == shell("costs 1 2 3", "cases"), True)
        self.assertIs(shell("costs 1 2 3", "cases") == shell("costs 1 2 4", "cases"), False)
        # A command that is refused does not count.
        other = shell("costs -", "chances -", "cases")
        outcome(other.run, "nosuch")
        outcome(other.run, "start X")
        outcome(other.run, "close one")
        self.assertIs(one == other, True)

    def test_len_and_str(self):
        shell = Shell()
        self.assertEqual([len(shell), str(shell)], [0, "shell with 0 answers"])
        shell.run("cases")
        self.assertEqual([len(shell), str(shell)], [1, "shell with 1 answers"])
        for command in (None, "cases ", "state x", "undo"):
            outcome(shell.run, command)
        self.assertEqual([len(shell), str(shell)], [1, "shell with 1 answers"])

    def test_office(self):
        shell = set_up()
        office = shell.office()
        self.assertIs(type(office), Office)
        self.assertIs(office == shell.office(), True)
        before = all_of(shell)
        office.do("paid", "check", "pass", "join")
        office.close("paid")
        office.close("done")
        office.publish(P)
        assign(office, 0)
        self.assertTrue(same(all_of(shell), before))
        self.assertIs(office == shell.office(), False)
        office = shell.office()
        shell.run("start new")
        shell.run("do new fork")
        self.assertEqual(office.cases(), ("done", "paid"))
        self.assertTrue(same(told(office), before[0]))
        self.assertIs(Shell().office() == Office(), True)


class Drawn(unittest.TestCase):
    """The same drawn operations by commands and by methods of an office beside it."""

    def pair(self, chance, office, nets):
        """Returns a command, and what it is for the office, which returns its answer."""
        cases = list(office.cases()) + ["one", "two", "three", "four"]
        case = chance.choice(cases[:max(1, len(office.cases()))] if chance.random() < 0.8 else cases)
        number = chance.choice((0, 0, 1, 1, 2, 3, -1))
        kind = chance.choice((
            "publish", "current", "start", "start", "undo", "redo", "do", "do", "do", "do", "move", "close", "cases", "enabled",
            "state", "expected", "cheapest",
        ))
        if kind == "publish":
            net = chance.choice(nets)
            return publish(net), lambda: str(office.publish(net))
        if kind == "current":
            return "current {}".format(number), lambda: assign(office, number) or "ok"
        if kind in ("undo", "redo"):
            return kind, lambda: getattr(office, kind)() or "ok"
        if kind == "do":
            enabled = office.enabled(case) if case in office.cases() else ()
            steps = tuple(chance.choice(enabled + ("x",) if chance.random() < 0.1 else enabled or ("x",))
                          for _ in range(chance.choice((0, 1, 1, 1, 2))))
            return "do {} {}".format(case, format_names(steps)), lambda: ",".join(map(str, office.do(case, *steps)))
        if kind == "move":
            return "move {} {}".format(case, number), lambda: ",".join(map(str, office.move(case, number)))
        if kind == "cases":
            return kind, lambda: format_names(office.cases())
        calls = {
            "start": lambda: office.start(case) or "ok", "close": lambda: str(office.close(case)),
            "enabled": lambda: format_names(office.enabled(case)),
            "state": lambda: "{} {} {}".format(*[
                ",".join(map(str, part)) if type(part) is tuple else part for part in office.state(case)]),
            "expected": lambda: "{}/{}".format(*office.remaining(case)),
            "cheapest": lambda: "{} {}".format(*[
                format_names(part) if type(part) is tuple else part for part in office.cheapest(case)]),
        }
        return "{} {}".format(kind, case), calls[kind]

    def test_commands_and_methods(self):
        returned = 0
        for seed in range(30):
            chance = Random(49600 + seed)
            nets = [chance.choice([C, P, F] + list(small(some(SOUND, 30, 497), 6))) for _ in range(3)] + [B]
            shell, office = Shell(), Office()
            answers = 0
            for number in range(60):
                command, call = self.pair(chance, office, nets) if number else (publish(nets[0]), lambda: str(
                    office.publish(nets[0])))
                result, expected = outcome(shell.run, command), outcome(call)
                self.assertTrue(same(result[:2], expected[:2]), (seed, command, result, expected))
                if result[0] == "raised":
                    self.assertTrue(same(list(result[2].items()), list(expected[2].items())), command)
                answers += result[0] == "returned"
                self.assertEqual(len(shell), answers)
                self.assertIs(shell.office() == office, True)
            self.assertTrue(same(told(shell.office()), told(office)))
            returned += answers
        self.assertGreater(returned, 800)


if __name__ == "__main__":
    unittest.main()
