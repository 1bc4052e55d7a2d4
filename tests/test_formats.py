"""Texts of nets, libraries, markings, names and fractions."""

import unittest
from random import Random

from caseflow.nets.walks import Walk
from caseflow.terms.terms import Do
from caseflow.text.formats import (
    MAX_DIGITS, format_fraction, format_library, format_marking, format_names, format_net, parse_fraction, parse_library,
    parse_marking, parse_names, parse_net,
)
from tests import plain, plain_library
from tests.built import EXACTLY_257, MARKINGS_4096
from tests.randoms import random_nets
from tests.samples import (
    A, B, C, D, F, L, NETS, ODD, P, chain, choices, copy_of, in_time, nested, outcome, same, variants, wide,
)
from tests.test_library import GO, K, SMALL, line

NO_TEXT = ("raised", "ParseError", {})
SECONDS = 10
SIGNS = " \n\t+-_0,;>/.:x\u0663\u00b2\u00a0"
# A step can have each of the words that begin a line.
WORDS = (3, (("chances", (0,), (2,)), ("costs", (0,), (2,)), ("entry", (2,), (2,)), ("places", (2,), (2,)),
             ("use", (2,), (1,))))
TEXTS = ("", " ", "-", "\n", "0", "a", "places 2", "entry a", "\x00", "\u20ac", "places 3\n")
LONG = ("1" * 100000, " " * 100000, "\n" * 100000, "a " * 50000, "1," * 50000, "-" * 100000, "places 2\n" * 20000,
        "places 2\n" + "a 0 > 1\n" * 20000, "entry a\nplaces 2\na 0 > 1\nchances -\ncosts -\n" * 5000, "1/" * 50000)


def changed(text):
    """Returns texts with one thing otherwise."""
    found = set()
    for at in range(len(text) + 1):
        found |= {text[:at] + sign + text[at:] for sign in SIGNS} | {text[:at] + text[at + 1:]}
        found |= {text[:at] + sign + text[at + 1:] for sign in SIGNS}
    for sign in (" ", "\n", ",", "/"):
        parts = text.split(sign)
        for at in range(len(parts)):
            found |= {sign.join(parts[:at] + parts[at + 1:]), sign.join(parts[:at + 1] + parts[at:])}
            found |= {sign.join(parts[:at] + [other] + parts[at + 1:]) for other in (
                "", "0", "-0", "00", "+1", "1_0", "1.0", "\u0661", "-", ">", "a", "A", "01", " 1", "1 ", "40", "31", parts[-1])}
    return found - {text}


class Test(unittest.TestCase):

    def has_one_text(self, text, value, read, write):
        """Fails unless the text is that of the value, and other texts are those of other values or of none."""
        self.assertEqual(write(value), text)
        self.assertTrue(same(read(text), value), text)
        for other in changed(text) if len(text) < 120 else ():
            result = outcome(read, other)
            if result[0] == "returned":
                self.assertEqual(write(result[1]), other)
                self.assertFalse(same(result[1], value), other)
            else:
                self.assertEqual(result, NO_TEXT, other)

    def refuses(self, read, others=()):
        """Fails unless other values, and long strings, are refused."""
        for value in ODD + TEXTS + tuple(others) + (b"a", Do("a"), Walk(C), ("a",), ["a"], {"a": "b"}, nested(list, 10)):
            result = outcome(read, value)
            if type(value) is not str:
                self.assertEqual(result, NO_TEXT, value)
            elif result[0] == "raised":
                self.assertEqual(result, NO_TEXT, value)
        for text in LONG:
            result = in_time(SECONDS, lambda: outcome(read, text))
            self.assertTrue(result[0] == "returned" or result == NO_TEXT)


class Nets(Test):

    def test_texts(self):
        for net in NETS + (A, D, WORDS, GO, (2, (("a", (0,), (0, 1)),)), (12, (("a", (0, 10, 11), (1, 9)),))):
            text = "places {}".format(net[0]) + "".join(
                "\n{} {} > {}".format(name, ",".join(map(str, ins)), ",".join(map(str, outs))) for name, ins, outs in net[1]
            )
            self.has_one_text(text, net, parse_net, format_net)

    def test_many(self):
        for net in random_nets(60, 30, 40) + [wide(28), chain(29), choices(40), EXACTLY_257, MARKINGS_4096]:
            self.assertTrue(same(parse_net(format_net(net)), net))

    def test_no_nets(self):
        for text in (
            "places 3", "places 3\n", "places 2\na 0 > 1\n", "places 2\n\na 0 > 1", "\nplaces 2\na 0 > 1", "places 2 \na 0 > 1",
            "places 2\na 0 > 1\na 0 > 1", "places 2\nb 0 > 1\na 0 > 1", "places 2\na 0,0 > 1", "places 3\na 2,0 > 1",
            "places 2\na 0 > 2", "places 2\na  > 1", "places 2\na 0 >", "places 2\na 0 > ", "places 2\na 0 1", "places 2\na 0 < 1",
            "places 2\n 0 > 1", "places 2\nA 0 > 1", "places 2\nabcdefghi 0 > 1", "places 1\na 0 > 0", "places 31\na 0 > 1",
            "places 02\na 0 > 1", "places +2\na 0 > 1", "places 2\na 0 > 1 ", "places 2\na 0 > 01", "places 2\na -0 > 1",
            "places 2\na -1 > 1", "places 2\r\na 0 > 1", "Places 2\na 0 > 1", "a 0 > 1", "places 2 a 0 > 1", "places\n2\na 0 > 1",
            "places 2\na 0, > 1", "places 2\na ,0 > 1", "places 2\na 0 > 1\nchances -", "places 2\na 0 > 1 > 1", "places 2\na 0 > > 1",
            "places two\na 0 > 1", "places 2\na\u00a00 > 1", "places \u0662\na 0 > 1", "places 2\na 0 > " + "1" * 401,
            "places " + "2" * 400 + "\na 0 > 1",
        ):
            self.assertEqual(outcome(parse_net, text), NO_TEXT, text)
        self.assertTrue(same(parse_net("places 2\na 0 > 1"), (2, (("a", (0,), (1,)),))))
        self.refuses(parse_net, (format_net(C).split("\n"), C, (format_net(C),)))

    def test_errors(self):
        for value in list(ODD) + list(variants(C))[::5] + [format_net(C), Do("a")]:
            if not plain.is_net(value):
                self.assertEqual(outcome(format_net, value), ("raised", "InvalidNet", {}), value)


class Libraries(Test):

    def test_texts(self):
        one = (("a", GO, ((1, 1),), (5,), ()),)
        self.has_one_text("entry a\nplaces 2\ngo 0 > 1\nchances 1/1\ncosts 5", one, parse_library, format_library)
        two = (("a", GO, None, None, (("go", "b", 10 ** 30),)), ("b", GO, None, (0,), ()))
        text = (
            "entry a\nplaces 2\ngo 0 > 1\nchances -\ncosts -\nuse go b 1" + "0" * 30
            + "\nentry b\nplaces 2\ngo 0 > 1\nchances -\ncosts 0"
        )
        self.has_one_text(text, two, parse_library, format_library)
        three = (("a", WORDS, None, (1, 2, 3, 4, 5), (("costs", "b", 1), ("use", "use", 2))), ("b", GO, None, None, ()),
                 ("use", (2, choices(3)[1]), ((1, 3), (1, 2), (1, 6)), None, ()))
        text = (
            "entry a\nplaces 3\nchances 0 > 2\ncosts 0 > 2\nentry 2 > 2\nplaces 2 > 2\nuse 2 > 1\nchances -\ncosts 1 2 3 4 5\n"
            "use costs b 1\nuse use use 2\nentry b\nplaces 2\ngo 0 > 1\nchances -\ncosts -\n"
            "entry use\nplaces 2\naa 0 > 1\nab 0 > 1\nac 0 > 1\nchances 1/3 1/2 1/6\ncosts -"
        )
        self.has_one_text(text, three, parse_library, format_library)

    def test_many(self):
        for library, _ in SMALL:
            self.assertTrue(same(parse_library(format_library(library)), library))
        for library in (K, line(12), line(12, 10 ** 30), (("u", B, None, None, ()),), (("u", L, None, None, ()),)):
            text = format_library(library)
            self.assertTrue(same(parse_library(text), library))
            lines = text.split("\n")
            for at in range(len(lines)):
                for other in (lines[:at] + lines[at + 1:], lines[:at + 1] + lines[at:], lines[:at] + [""] + lines[at:],
                              lines[:at] + [lines[at] + " "] + lines[at + 1:], lines[:at] + lines[at + 1:at + 2] + lines[at:at + 1]
                              + lines[at + 2:]):
                    result = outcome(parse_library, "\n".join(other))
                    if result[0] == "returned":
                        self.assertEqual(format_library(result[1]), "\n".join(other))
                    else:
                        self.assertEqual(result, NO_TEXT)

    def test_no_libraries(self):
        right = "entry a\nplaces 2\ngo 0 > 1\nchances -\ncosts -"
        self.assertEqual(len(parse_library(right)), 1)
        for text in (
            right + "\n", "\n" + right, right + "\nuse go a 1", right + "\nuse go b 1", right + "\nuse go", right + "\n" + right,
            right.replace("entry a", "entry"), right.replace("entry a", "entry A"), right.replace("entry a", "entry a b"),
            right.replace("chances -", "chances"), right.replace("chances -", "chances "), right.replace("chances -", "chances 1/2"),
            right.replace("chances -", "chances 1/1 "), right.replace("chances -", "chances 1/1 1/1"),
            right.replace("chances -", "chances 2/2"), right.replace("chances -", "chances 1"), right.replace("costs -", "costs"),
            right.replace("costs -", "costs -1"), right.replace("costs -", "costs 1 1"), right.replace("costs -", "costs 1000000001"),
            right.replace("costs -", "costs - -"), right.replace("costs -", "costs 1,1"), right.replace("chances", "Chances"),
            right.replace("\nchances -\ncosts -", "\ncosts -\nchances -"), right.replace("go 0 > 1\n", ""),
            right.replace("\n", "\r\n"), right.replace("\n", "\n\n"), right.replace("\n", " "), right + "\nuse go b 0",
            "entry a\nplaces 4\na 0 > 2\nb 0,3 > 1\nchances -\ncosts -", right + "\nuses go b 1", right + "\nplaces 2",
        ):
            self.assertEqual(outcome(parse_library, text), NO_TEXT, text)
        other = right.replace("entry a", "entry b")
        for times, expected in (("1", True), ("0", False), ("01", False), ("-1", False), ("1" + "0" * 30, True),
                                ("1" + "0" * 29 + "1", False), ("1 ", False), (" 1", False), ("+1", False), ("1 1", False)):
            text = right + "\nuse go b " + times + "\n" + other
            self.assertEqual(outcome(parse_library, text)[0] == "returned", expected, times)
        self.refuses(parse_library, (K, [format_library(K)]))

    def test_errors(self):
        for value in list(ODD) + list(variants(K))[::9] + [list(K), format_library(K)]:
            if not plain_library.is_library(value):
                self.assertEqual(outcome(format_library, value), ("raised", "InvalidLibrary", {}), value)


class Markings(Test):

    def test_texts(self):
        for net, marking, text in (
            (C, (0, 1, 0), "0,1,0"), (C, (10 ** 9, 0, 12), "1000000000,0,12"), (GO, (3, 4), "3,4"),
            (F, (0, 0, 1, 0, 0, 0, 1), "0,0,1,0,0,0,1"),
        ):
            self.has_one_text(text, marking, lambda text: parse_marking(net, text), lambda value: format_marking(net, value))
        self.assertEqual(format_marking(chain(29), (0,) * 30), ",".join("0" * 30))

    def test_no_markings(self):
        for text in ("0,1", "0,1,0,0", "0,1,0,", ",0,1,0", "0,,1,0", "0, 1,0", " 0,1,0", "0,1,0 ", "0,1,0\n", "0 1 0", "-0,1,0",
                     "-1,1,0", "00,1,0", "+0,1,0", "0,1,1000000001", "0,1," + "9" * 400, "0,1," + "9" * 401, "0;1;0", "(0,1,0)",
                     "0,1_0,0", "0,\u0661,0", "0,1.0,0", "0,a,0", "", "0,True,0", "0x0,1,0", "0,1,\u00b2"):
            self.assertEqual(outcome(parse_marking, C, text), NO_TEXT, text)
        self.refuses(lambda text: parse_marking(C, text), ((0, 1, 0), ["0,1,0"]))

    def test_errors(self):
        for value in list(ODD) + list(variants((0, 1, 0)))[::2]:
            if not plain.is_marking(C, value):
                self.assertEqual(outcome(format_marking, C, value), ("raised", "InvalidMarking", {}), value)
        for value in [value for value in ODD if not plain.is_net(value)] + [list(C)]:
            for other in ((0, 1, 0), None):
                self.assertEqual(outcome(format_marking, value, other), ("raised", "InvalidNet", {}), value)
            for other in ("0,1,0", None):
                self.assertEqual(outcome(parse_marking, value, other), ("raised", "InvalidNet", {}), value)
        # Any net will do.
        self.assertTrue(same(parse_marking(B, "0,0,1,7"), (0, 0, 1, 7)))


class Names(Test):

    def test_texts(self):
        for names, text in (((), "-"), (("a",), "a"), (("fork", "pay"), "fork pay"), (("x",) * 3, "x x x"),
                            (("abcdefgh", "zz"), "abcdefgh zz")):
            self.has_one_text(text, names, parse_names, format_names)
        many = ("abcdefgh",) * 20000
        self.assertTrue(same(parse_names(format_names(many)), many))

    def test_no_names(self):
        for text in ("", " ", "a ", " a", "a  b", "a\nb", "a\n", "A", "a-", "- -", "a -", "- a", "abcdefghi", "a1", "a,b", "\u00e9",
                     "a\u00a0b", "a\tb", "--"):
            self.assertEqual(outcome(parse_names, text), NO_TEXT, text)
        self.refuses(parse_names, (("fork", "pay"), ["fork"], ()))

    def test_errors(self):
        for value in ODD + ("fork", ["fork"], ("fork", ""), ("fork", None), ("fork", "Pay"), ("fork pay",), (("fork",),),
                            ("abcdefghi",), ("-",), {"fork": 1}, ("a\n",), Do("a"), ([],)):
            right = type(value) is tuple and all(
                type(name) is str and 1 <= len(name) <= 8 and name.isascii() and name.isalpha() and name.islower()
                for name in value)
            result = outcome(format_names, value)
            self.assertEqual(result[0] if right else result, "returned" if right else ("raised", "InvalidLog", {}), value)


class Fractions(Test):

    def test_texts(self):
        for fraction, text in (((15, 2), "15/2"), ((0, 1), "0/1"), ((-3, 4), "-3/4"), ((1, 1), "1/1"), ((10, 9), "10/9"),
                               ((-100, 1), "-100/1"), ((7, 100), "7/100")):
            self.has_one_text(text, fraction, parse_fraction, format_fraction)

    def test_many(self):
        chance = Random(481)
        for _ in range(300):
            text = "{}/{}".format(chance.randint(-30, 30), chance.randint(-3, 30))
            above, below = map(int, text.split("/"))
            right = below > 0 and plain_library.is_fraction((above, below))
            result = outcome(parse_fraction, text)
            self.assertTrue(same(result, ("returned", (above, below)) if right else NO_TEXT), text)

    def test_numbers_of_digits(self):
        self.assertTrue(same(MAX_DIGITS, 400))
        most = 10 ** 400 - 1
        for fraction, right in (
            ((most, 1), True), ((-most, 1), True), ((most + 1, 1), False), ((-most - 1, 1), False), ((1, most), True),
            ((1, most + 1), False), ((most - 1, most), True), ((most, most + 1), False), ((10 ** 5000, 1), False),
            ((-10 ** 5000, 1), False), ((1, 10 ** 5000), False), ((10 ** 399, 1), True), ((2 ** 1600, 1), False),
            ((2 ** 1599 + 1, 2), False), ((10 ** 100000, 1), False),
        ):
            result = outcome(format_fraction, fraction)
            if right:
                self.assertEqual(result[1], "{}/{}".format(*fraction))
                self.assertTrue(same(parse_fraction(result[1]), fraction))
            else:
                self.assertEqual(result, ("raised", "TooMany", {"limit": 400}))
        for text, right in (
            ("9" * 400 + "/1", True), ("9" * 401 + "/1", False), ("-" + "9" * 400 + "/1", True), ("-" + "9" * 401 + "/1", False),
            ("1/" + "9" * 400, True), ("1/" + "9" * 401, False), ("1" + "0" * 400 + "/1", False), ("9" * 5000 + "/1", False),
            ("0" * 401 + "/1", False), ("1/" + "9" * 100000, False),
        ):
            result = in_time(SECONDS, lambda: outcome(parse_fraction, text))
            self.assertEqual(result[0] if right else result, "returned" if right else NO_TEXT)

    def test_no_fractions(self):
        for text in ("2/4", "0/2", "1/0", "1/-2", "-0/1", "+1/2", "01/2", "1/02", "1 / 2", " 1/2", "1/2 ", "1/2\n", "1", "1/2/3",
                     "/2", "1/", "/", "", "1//2", "1.5", "1_0/3", "\u0661/2", "1\u20442", "a/b", "-/1", "--1/2", "0/0", "1/1/1", "\u00bd"):
            self.assertEqual(outcome(parse_fraction, text), NO_TEXT, text)
        self.refuses(parse_fraction, ((1, 2), ["1/2"]))

    def test_errors(self):
        for value in ODD + ((2, 4), (0, 2), (1, 0), (1, -2), (True, 2), (1, True), [1, 2], (1, 2, 3), (1,), "1/2", (1, "2"),
                            (10 ** 5000, 10 ** 5000), Do("a"), {1: 2}):
            if not plain_library.is_fraction(value):
                result = outcome(format_fraction, value)
                self.assertEqual(result[:2], ("raised", "InvalidNumber"), value)
                self.assertTrue(same(result[2]["value"], value) or result[2]["value"] is value)
        # What is no fraction comes before the number of digits.
        self.assertEqual(outcome(format_fraction, (2 * 10 ** 400, 2))[1], "InvalidNumber")


class Values(unittest.TestCase):

    def test_arguments_are_not_changed(self):
        for value in ([3, [("a", [0], (1,))]], {"a": ["b"]}, ("a", ["b"]), [[1], 2], [K[0], list(K[1])]):
            before = copy_of(value)
            for call in (
                format_net, parse_net, format_library, parse_library, format_names, parse_names, format_fraction, parse_fraction,
                lambda v: format_marking(v, (0,)), lambda v: format_marking(C, v), lambda v: parse_marking(v, "0"),
                lambda v: parse_marking(C, v),
            ):
                outcome(call, value)
                self.assertTrue(same(value, before))
        for value in (K, P, C):
            before = copy_of(value)
            outcome(format_library, value)
            outcome(format_net, value)
            self.assertTrue(same(value, before))


if __name__ == "__main__":
    unittest.main()
