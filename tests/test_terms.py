"""Terms."""

import unittest
from random import Random

from caseflow.nets.walks import Walk
from caseflow.sound.papers import is_sound
from caseflow.terms.terms import Choice, Do, Loop, Parallel, Sequence, Term, workflow_term
from tests import plain, plain_terms
from tests.pools import NOT_SOUND, SOUND
from tests.randoms import random_workflows
from tests.samples import (
    A, APART, B, C, F, L, ODD, OVERLAP, P, PILE, STILL, chain, choices, copy_of, in_time, label, outcome, same,
)

INVALID = ("raised", "InvalidTerm", {})
NO_TEXT = ("raised", "ParseError", {})
SECONDS = 10
T = Parallel(Do("pay"), Loop(Do("check"), enter="open", again="back", leave="pass"), fork="fork", join="join")


def dos(many, begin=0):
    """Returns so many terms of one step."""
    return [Do(label(begin + k)) for k in range(many)]


def nested(depth):
    """Returns a term in which so many terms are nested within one another, alternately of two kinds."""
    term = Do("z")
    for k in range(depth - 1):
        term = (Sequence, Choice)[k % 2](term, Do(label(k)))
    return term


def told(term):
    """Returns all that a term tells of itself."""
    return (str(term), len(term), term.names, term.depth, term.places, list(term.walk()))


class Making(unittest.TestCase):

    def test_each_class(self):
        one, other = Do("a"), Do("b")
        for term, text in (
            (one, "a"), (Sequence(one, other), "seq ( a ; b )"), (Sequence(other, one), "seq ( b ; a )"),
            (Choice(one, other), "alt ( a ; b )"), (Parallel(one, other, fork="x", join="c"), "par x ( a ; b ) c"),
            (Loop(one, enter="x", again="c", leave="d"), "loop x ( a ) c d"),
            (Parallel(other, one, join="c", fork="x"), "par x ( b ; a ) c"),
            (Loop(Sequence(one, other), leave="d", again="c", enter="x"), "loop x ( seq ( a ; b ) ) c d"),
            (Loop(body=one, leave="d", again="c", enter="x"), "loop x ( a ) c d"), (Do(name="a"), "a"),
        ):
            self.assertEqual(str(term), text)
            self.assertIsInstance(term, Term)

    def test_classes(self):
        for made in (Do, Sequence, Choice, Parallel, Loop):
            self.assertTrue(issubclass(made, Term))
            self.assertTrue(same([made.MAX_STEPS, made.MAX_DEPTH], [40, 8]))
        self.assertTrue(same([Term.MAX_STEPS, Term.MAX_DEPTH, T.MAX_STEPS, T.MAX_DEPTH], [40, 8, 40, 8]))

    def test_numbers_of_parts(self):
        for many in range(12):
            parts = dos(many)
            right = 2 <= many <= 8
            for result in (
                outcome(Sequence, *parts), outcome(Choice, *parts), outcome(Parallel, *parts, fork="x", join="y"),
            ):
                self.assertEqual(result[0] if right else result, "returned" if right else INVALID, many)
                if right:
                    self.assertEqual(len(result[1].names), many + 2 * (type(result[1]) is Parallel))

    def test_parts_that_are_no_terms(self):
        values = [value for value in ODD if not isinstance(value, Term)]
        for value in values + ["a", "seq ( a ; b )", Do, Term, (Do("a"),), [Do("a"), Do("b")], {"a": Do("a")}]:
            for call in (
                lambda: Sequence(value, Do("b")), lambda: Sequence(Do("b"), value), lambda: Choice(Do("b"), value),
                lambda: Choice(value, value), lambda: Parallel(Do("b"), value, fork="x", join="y"),
                lambda: Loop(value, enter="x", again="y", leave="z"),
            ):
                self.assertEqual(outcome(call), INVALID, value)

    def test_names(self):
        for value in ODD + ("", "A", "a ", " a", "a\n", "1", "a_b", "\u00e9", "x" * 9, "(", ";", ")", ("a",), Do("a")):
            right = type(value) is str and 1 <= len(value) <= 8 and set(value) <= set("abcdefghijklmnopqrstuvwxyz")
            for call in (
                lambda: Do(value), lambda: Parallel(Do("q"), Do("r"), fork=value, join="s"),
                lambda: Parallel(Do("q"), Do("r"), fork="s", join=value),
                lambda: Loop(Do("q"), enter=value, again="r", leave="s"),
                lambda: Loop(Do("q"), enter="r", again=value, leave="s"),
                lambda: Loop(Do("q"), enter="r", again="s", leave=value),
            ):
                result = outcome(call)
                self.assertEqual(result[0] if right else result, "returned" if right else INVALID, value)

    def test_equal_names(self):
        both = Sequence(Do("a"), Do("b"))
        for call in (
            lambda: Sequence(Do("a"), Do("a")), lambda: Choice(Do("a"), Do("b"), Do("a")), lambda: Choice(both, Do("b")),
            lambda: Sequence(both, both), lambda: Parallel(Do("a"), Do("b"), fork="a", join="c"),
            lambda: Parallel(Do("a"), Do("b"), fork="c", join="b"), lambda: Parallel(Do("a"), Do("b"), fork="c", join="c"),
            lambda: Loop(Do("a"), enter="a", again="b", leave="c"), lambda: Loop(Do("a"), enter="b", again="b", leave="c"),
            lambda: Loop(Do("a"), enter="b", again="c", leave="b"), lambda: Loop(Do("a"), enter="b", again="c", leave="c"),
            lambda: Loop(both, enter="c", again="b", leave="d"), lambda: Sequence(Do("x"), Choice(both, Do("x"))),
        ):
            self.assertEqual(outcome(call), INVALID)

    def test_numbers_of_steps(self):
        blocks = [Choice(*dos(8, 8 * k)) for k in range(5)]
        forty = Sequence(*blocks)
        self.assertEqual([len(forty), forty.depth], [40, 3])
        self.assertEqual(forty.workflow()[0], 6)
        self.assertEqual(outcome(Sequence, forty, Do("z")), INVALID)
        self.assertEqual(outcome(Sequence, *blocks, Do("z")), INVALID)
        thirty_eight = Sequence(*blocks[:4], Choice(*dos(6, 32)))
        self.assertEqual(len(Parallel(Sequence(*blocks[:4]), Choice(*dos(6, 32)), fork="x", join="y")), 40)
        self.assertEqual(outcome(lambda: Loop(thirty_eight, enter="x", again="y", leave="z")), INVALID)
        thirty_seven = Sequence(*blocks[:4], Choice(*dos(5, 32)))
        self.assertEqual(len(Loop(thirty_seven, enter="x", again="y", leave="z")), 40)
        self.assertEqual(
            outcome(lambda: Parallel(*blocks[:4], Choice(*dos(7, 32)), fork="x", join="y")), INVALID
        )

    def test_depths(self):
        for depth in range(1, 9):
            self.assertEqual(nested(depth).depth, depth)
        eight = nested(8)
        for call in (
            lambda: Sequence(eight, Do("y")), lambda: Choice(Do("y"), eight), lambda: Parallel(
                eight, Do("y"), fork="x", join="w"), lambda: Loop(eight, enter="x", again="w", leave="v"),
            lambda: nested(9),
        ):
            self.assertEqual(outcome(call), INVALID)
        seven = nested(7)
        self.assertEqual(Loop(seven, enter="x", again="w", leave="v").depth, 8)
        self.assertEqual(Parallel(Do("y"), seven, fork="x", join="w").depth, 8)
        # Sequences within one another count, although they are one in the normal term.
        term = Do("z")
        for k in range(7):
            term = Sequence(term, Do(label(k)))
        self.assertEqual([term.depth, term.normalized().depth], [8, 2])
        self.assertEqual(outcome(Sequence, term, Do("y")), INVALID)
        self.assertEqual(Sequence(term.normalized(), Do("y")).depth, 3)


class Telling(unittest.TestCase):

    def test_drawn_terms(self):
        for description in plain_terms.drawn_terms(Random(421), 300):
            term = plain_terms.made(description)
            names = plain_terms.walk(description)
            self.assertTrue(same(told(term), (
                plain_terms.text(description), len(names), tuple(sorted(names)), plain_terms.depth(description),
                plain_terms.workflow(description)[0], names,
            )))
            self.assertTrue(same(told(term), told(plain_terms.made(description))))

    def test_walk_is_a_generator(self):
        walk = T.walk()
        self.assertEqual([next(walk), next(walk)], ["fork", "pay"])
        self.assertEqual(list(T.walk()), ["fork", "pay", "open", "check", "back", "pass", "join"])

    def test_properties_cannot_be_assigned(self):
        for name in ("names", "depth", "places"):
            before = told(T)
            with self.assertRaises(AttributeError):
                setattr(T, name, ())
            self.assertTrue(same(told(T), before))

    def test_equal(self):
        one, other = Do("a"), Do("b")
        terms = [one, other, Sequence(one, other), Sequence(other, one), Choice(one, other), Choice(other, one),
                 Parallel(one, other, fork="c", join="d"), Parallel(one, other, fork="d", join="c"),
                 Loop(one, enter="b", again="c", leave="d"), Loop(one, enter="c", again="b", leave="d"),
                 Sequence(one, Sequence(other, Do("c"))), Sequence(Sequence(one, other), Do("c")),
                 Sequence(one, other, Do("c"))]
        for at, term in enumerate(terms):
            for number, another in enumerate(terms):
                self.assertIs(term == another, at == number)
                self.assertIs(term != another, at != number)
            self.assertIs(term == Term.read(str(term)), True)
        for value in ODD + (str(T), T.names, Walk(C), Do, Term):
            self.assertIs(T == value, False)
            self.assertIs(value == T, False)

    def test_parts_stay_as_they_are(self):
        one, other = Do("a"), Choice(Do("c"), Do("b"))
        before = told(one), told(other)
        parts = [one, other]
        term = Sequence(*parts)
        parts.clear()
        term.normalized()
        term.workflow()
        self.assertTrue(same((told(one), told(other)), before))
        self.assertEqual(str(term), "seq ( a ; alt ( c ; b ) )")


class Normal(unittest.TestCase):

    def test_drawn_terms(self):
        for description in plain_terms.drawn_terms(Random(422), 300):
            term = plain_terms.made(description)
            normal = plain_terms.normal(description)
            found = term.normalized()
            names = plain_terms.walk(normal)
            self.assertTrue(same(told(found), (
                plain_terms.text(normal), len(names), tuple(sorted(names)), plain_terms.depth(normal), term.places, names,
            )), description)
            self.assertIs(type(found), type(term))
            self.assertIs(found.normalized() == found, True)
            self.assertEqual(plain_terms.text(description), str(term))

    def test_some(self):
        a, b, c, d = dos(4)
        for term, text in (
            (Sequence(Sequence(d, c), Sequence(b, a)), "seq ( ad ; ac ; ab ; aa )"),
            (Choice(Choice(d, c), Choice(b, a)), "alt ( aa ; ab ; ac ; ad )"),
            (Choice(Sequence(d, a), Sequence(b, c)), "alt ( seq ( ad ; aa ) ; seq ( ab ; ac ) )"),
            (Parallel(d, Parallel(c, b, fork="x", join="a"), fork="y", join="z"), "par y ( par x ( ab ; ac ) a ; ad ) z"),
            (Loop(Choice(b, a), enter="z", again="y", leave="x"), "loop z ( alt ( aa ; ab ) ) y x"),
            (Sequence(Sequence(Choice(Choice(d, b), c), a), Do("e")), "seq ( alt ( ab ; ac ; ad ) ; aa ; e )"),
        ):
            self.assertEqual(str(term.normalized()), text)

    def test_more_than_eight_parts(self):
        for made, kind in ((Sequence, "seq"), (Choice, "alt")):
            term = made(made(*dos(8)), made(*dos(8, 8)), *dos(3, 16))
            normal = term.normalized()
            names = [label(k) for k in range(19)]
            text = kind + " ( " + " ; ".join(names) + " )"
            places = 20 if made is Sequence else 2
            self.assertTrue(same(told(normal), (text, 19, tuple(names), 2, places, names)))
            self.assertIs(type(normal), made)
            self.assertTrue(same(normal.workflow(), chain(19) if made is Sequence else choices(19)))
            self.assertTrue(same(term.workflow(), normal.workflow()))
            self.assertIs(normal.normalized() == normal, True)
            self.assertIs(workflow_term(normal.workflow()) == normal, True)
            self.assertIs(normal == term, False)
            self.assertEqual(outcome(Term.read, text), NO_TEXT)
            self.assertEqual(outcome(made, *dos(19)), INVALID)
            # It can be a part of another term.
            other = Choice if made is Sequence else Sequence
            self.assertEqual(len(other(normal, Do("z"))), 20)
            self.assertEqual(outcome(other, normal, Do("ab")), INVALID)
            self.assertEqual(str(made(normal, Do("z")).normalized()), text[:-2] + " ; z )")


class Workflows(unittest.TestCase):

    def test_drawn_terms(self):
        chance = Random(423)
        large = 0
        for description in plain_terms.drawn_terms(chance, 300):
            term = plain_terms.made(description)
            expected = plain_terms.workflow(description)
            if expected[0] > 30:
                large += 1
                self.assertEqual(outcome(term.workflow), ("raised", "TooMany", {"limit": 30}))
                self.assertEqual(outcome(term.normalized().workflow), ("raised", "TooMany", {"limit": 30}))
                continue
            self.assertTrue(same(term.workflow(), expected), description)
            self.assertTrue(same(term.normalized().workflow(), expected))
            self.assertIs(is_sound(expected), True)
            for net in (expected, plain_terms.renumbered(chance, expected), plain_terms.renumbered(chance, expected)):
                found = workflow_term(net)
                self.assertIs(found == term.normalized(), True, net)
                self.assertEqual(str(found), plain_terms.text(plain_terms.normal(description)))
                self.assertIs(type(found), type(term))
        self.assertGreater(large, 10)

    def test_numbers_of_places(self):
        for many, right in ((28, True), (29, True)):
            self.assertEqual(Sequence(*[Sequence(*dos(7, 7 * k)) for k in range(4)]).places, 29)
            term = Sequence(*[Sequence(*dos(7, 7 * k)) for k in range(4)], *dos(many - 28, 28))
            self.assertEqual([term.places, outcome(term.workflow)[0]], [many + 1, "returned"])
        term = Sequence(*[Sequence(*dos(7, 7 * k)) for k in range(4)], *dos(2, 28))
        self.assertEqual([term.places, outcome(term.workflow)], [31, ("raised", "TooMany", {"limit": 30})])
        self.assertEqual(len(term.normalized()), 30)

    def test_all_normal_terms(self):
        """Different normal terms have different workflows, and all other workflows have no term."""
        known = {}
        forms = {}
        for many in range(1, 6):
            for description in plain_terms.all_normal(tuple(label(k) for k in range(many)), known):
                form = plain_terms.form(plain_terms.workflow(description))
                self.assertNotIn(form, forms)
                forms[form] = plain_terms.text(description)
                if many < 5 or len(forms) % 7 == 0:
                    self.assertEqual(str(workflow_term(plain_terms.workflow(description))), forms[form])
        self.assertEqual(len(forms), 3965)
        found = {True: 0, False: 0}
        for places in range(2, 7):
            for steps in range(places - 1, 6):
                for workflow in random_workflows(100, places, steps):
                    form = plain_terms.form(workflow)
                    result = workflow_term(workflow)
                    self.assertEqual(None if result is None else str(result), forms.get(form), workflow)
                    found[result is None] += 1
        self.assertGreater(min(found.values()), 300)

    def test_workflows_of_no_term(self):
        for workflow in (F, B, L) + NOT_SOUND:
            self.assertIsNone(workflow_term(workflow), workflow)
        for workflow in SOUND:
            result = workflow_term(workflow)
            if result is not None:
                self.assertEqual(plain_terms.form(result.workflow()), plain_terms.form(workflow))
        # The first join is a fork at the same time.
        twice = (10, (("a", (2,), (4,)), ("b", (3,), (5,)), ("c", (6,), (8,)), ("d", (7,), (9,)), ("fork", (0,), (2, 3)),
                      ("join", (8, 9), (1,)), ("middle", (4, 5), (6, 7))))
        self.assertIs(is_sound(twice), True)
        self.assertIsNone(workflow_term(twice))
        # A Parallel has at most eight branches.
        for many in (2, 8, 9, 12):
            steps = [("fork", (0,), tuple(range(2, 2 + many)))]
            steps += [(label(k), (2 + k,), (2 + many + k,)) for k in range(many)]
            steps += [("join", tuple(range(2 + many, 2 + 2 * many)), (1,))]
            result = workflow_term((2 + 2 * many, tuple(sorted(steps))))
            self.assertEqual(result is not None, many <= 8)
        # At most eight terms are nested.
        for many in range(1, 13):
            description = ("do", "body")
            for k in range(many):
                description = ("loop", label(3 * k), label(3 * k + 1), label(3 * k + 2), description)
            result = workflow_term(plain_terms.workflow(description))
            self.assertEqual(None if result is None else str(result), plain_terms.text(description) if many < 8 else None)
        # Sequences and Choices can have more than eight parts.
        self.assertEqual(len(workflow_term(chain(29))), 29)
        self.assertEqual(len(workflow_term(choices(40))), 40)

    def test_no_workflow(self):
        for value in [value for value in ODD if not plain.is_net(value) or plain.defects(value)] + [
                PILE, OVERLAP, APART, STILL, list(C), str(T), T]:
            self.assertEqual(outcome(workflow_term, value), ("raised", "InvalidWorkflow", {}), value)

    def test_arguments_are_not_changed(self):
        for workflow in (C, P, A, F, T.workflow()):
            before = copy_of(workflow)
            workflow_term(workflow)
            self.assertTrue(same(workflow, before))


class Reading(unittest.TestCase):

    def test_own_texts(self):
        for description in plain_terms.drawn_terms(Random(424), 300):
            text = plain_terms.text(description)
            term = Term.read(text)
            self.assertEqual(str(term), text)
            self.assertIs(term == plain_terms.made(description), True)
            self.assertIs(type(term), type(plain_terms.made(description)))

    def test_steps_with_the_words_of_terms(self):
        for text in (
            "seq", "alt", "par", "loop", "seq ( seq ; alt )", "alt ( seq ; alt ; par ; loop )", "par par ( seq ; alt ) loop",
            "loop loop ( seq ) alt par", "seq ( loop par ( seq ) alt x ; loop )", "par seq ( par ; loop ) alt",
            "par alt ( alt ( par ; seq ) ; loop ) join", "seq ( par ; par seq ( x ; y ) alt )", "alt ( seq ; seq ( a ; b ) )",
            "par loop ( loop seq ( par ) alt x ; y ) z", "loop seq ( alt ( par ; loop ) ) alt x",
        ):
            self.assertEqual(str(Term.read(text)), text)
        self.assertEqual(Term.read("seq ( seq ; alt )").names, ("alt", "seq"))
        # Equal names are no better if they are such words.
        for text in ("seq ( seq ; seq )", "par par ( a ; b ) par", "loop a ( seq ) seq b", "alt ( loop ; loop a ( b ) c loop )"):
            self.assertEqual(outcome(Term.read, text), NO_TEXT)

    def test_texts_with_one_thing_otherwise(self):
        texts = [str(T), "a", "seq ( a ; b )", "alt ( a ; seq ( c ; b ) )", "loop e ( alt ( a ; b ) ) g l",
                 "par f ( a ; seq ( b ; c ) ) j"]
        for text in texts:
            words = text.split(" ")
            tried = set()
            for at in range(len(text) + 1):
                tried |= {text[:at] + sign + text[at:] for sign in " \n\t();A1_\u00e9"} | {text[:at] + text[at + 1:]}
            for at in range(len(words)):
                tried |= {" ".join(words[:at] + words[at + 1:]), " ".join(words[:at + 1] + words[at:])}
                tried |= {" ".join(words[:at] + [word] + words[at + 1:]) for word in (
                    "", "(", ")", ";", "seq", "alt", "par", "loop", "a", "do", "Seq", "abcdefghi", "( a", "a ;", "a b")}
            for other in tried - {text}:
                result = outcome(Term.read, other)
                if result[0] == "returned":
                    self.assertEqual(str(result[1]), other)
                else:
                    self.assertEqual(result, NO_TEXT, other)
        for other in (" a", "a ", "a\n", "", " ", "seq ( a )", "seq ( )", "seq ( a ; b ) ", "seq  ( a ; b )", "seq (a ; b)",
                      "seq ( a ; b", "seq ( a ; ; b )", "seq ( a b )", "alt ( a ; a )", "par ( a ; b ) j", "par f ( a ) j",
                      "par f ( a ; b )", "par f ( a ; b ) j k", "loop e ( a ; b ) g l", "loop e ( ) g l", "loop e ( a ) g",
                      "loop ( a ) g l", "loop e ( a ) g l m", "do ( a )", "( a )", "seq ( a ; b ) ; c", "a ; b"):
            self.assertEqual(outcome(Term.read, other), NO_TEXT, other)

    def test_limits(self):
        names = [label(k) for k in range(60)]
        for many in range(1, 12):
            text = "seq ( " + " ; ".join(names[:many]) + " )"
            right = 2 <= many <= 8
            result = outcome(Term.read, text)
            self.assertEqual(result[0] if right else result, "returned" if right else NO_TEXT)
        blocks = ["alt ( " + " ; ".join(names[8 * k:8 * k + 8]) + " )" for k in range(5)]
        self.assertEqual(len(Term.read("seq ( " + " ; ".join(blocks) + " )")), 40)
        self.assertEqual(outcome(Term.read, "seq ( " + " ; ".join(blocks + ["z"]) + " )"), NO_TEXT)
        for depth in range(1, 20):
            text = "z"
            for k in range(depth - 1):
                text = "{} ( {} ; {} )".format(("seq", "alt")[k % 2], text, names[k])
            result = outcome(Term.read, text)
            self.assertEqual(result[0] if depth <= 8 else result, "returned" if depth <= 8 else NO_TEXT)

    def test_other_values(self):
        for value in ODD + (b"a", T, ("a",), ["a"], str(T).split(" ")):
            result = outcome(Term.read, value)
            right = type(value) is str and value.isascii() and value.isalpha() and value.islower() and len(value) <= 8
            self.assertEqual(result[0] if right else result, "returned" if right else NO_TEXT, value)

    def test_long_strings(self):
        for text in ("a" * 100000, "seq ( " * 100000, "seq ( a ; " * 50000, " " * 100000, "a ; " * 50000,
                     "seq ( " + "a ; " * 50000 + "a )", "loop a ( " * 50000, "par " * 100000, "\n" * 100000,
                     "seq ( a ; b )" + " )" * 100000, "alt " * 100000 + "("):
            self.assertEqual(in_time(SECONDS, lambda: outcome(Term.read, text)), NO_TEXT)


if __name__ == "__main__":
    unittest.main()
