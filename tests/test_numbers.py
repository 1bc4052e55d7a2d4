"""Numbers of cases, their lengths, and the class of cases."""

import unittest
from itertools import islice
from math import comb
from random import Random

from caseflow.cases.cases import normal_run, runs_of_case
from caseflow.cases.numbers import Case, case_at, case_lengths, case_number, complete_cases, count_cases
from caseflow.nets.runs import marking_after
from caseflow.nets.walks import Walk
from caseflow.sound.papers import is_structure_paper
from tests import plain, plain_cases
from tests.built import EXACTLY_256, EXACTLY_257, LOOP_OF_100, branches, ladder, rhombs
from tests.pools import FEW_RUNS, LOOPS, NOT_SOUND, SPLIT, TWINS, some
from tests.samples import B, C, D, F, L, ODD, P, chain, choices, copy_of, in_time, outcome, same

SECONDS = 20
# Two loops behind one another, each of two ways.
TWO_LOOPS = (4, (("a", (0,), (2,)), ("b", (2,), (2,)), ("c", (2,), (3,)), ("d", (3,), (3,)), ("e", (3,), (3,)),
                 ("f", (3,), (1,))))
TOO_MANY = ("raised", "TooMany", {"limit": 256})


def no_number(value):
    return ("raised", "InvalidNumber", {"value": value})


class SmallWorkflows(unittest.TestCase):
    """All complete cases of up to eight steps, found by exchanging neighbours."""

    def test_all(self):
        chance = Random(41)
        many = 0
        for workflow in FEW_RUNS:
            cases = plain_cases.complete_cases(workflow, 8)
            normal = [[runs[0] for runs in level] for level in cases]
            self.assertTrue(same([count_cases(workflow, length) for length in range(9)], [len(x) for x in normal]))
            self.assertTrue(same(list(complete_cases(workflow, longest=8)), sum(normal, [])), workflow)
            for length, level in enumerate(cases):
                for number, runs in some(enumerate(level), 12, length):
                    many += 1
                    self.assertTrue(same(case_at(workflow, length, number), runs[0]), (workflow, runs))
                    run = chance.choice(runs)
                    self.assertTrue(same(case_number(workflow, run), number), (workflow, run))
                self.assertEqual(outcome(case_at, workflow, length, len(level)), no_number(len(level)))
            self.lengths(workflow, normal)
        self.assertGreater(many, 700)

    def lengths(self, workflow, normal):
        shortest, longest = case_lengths(workflow)
        found = [length for length, level in enumerate(normal) if level]
        if found:
            self.assertTrue(same(shortest, min(found)))
        if longest is not None and longest <= 8:
            self.assertTrue(same(longest, max(found)))
        if longest is None:
            # A loop can be done again, so there are always longer ones.
            self.assertTrue(any(count_cases(workflow, length) > 0 for length in range(60, 80)))


class CountCases(unittest.TestCase):

    def test_some(self):
        self.assertTrue(same([count_cases(F, length) for length in range(12)], [0] * 5 + [1, 0, 1, 0, 1, 0, 1]))
        self.assertTrue(same([count_cases(TWINS, length) for length in range(5)], [0, 0, 4, 4, 4]))
        self.assertTrue(same([count_cases(choices(40), length) for length in (0, 1, 2)], [0, 40, 0]))
        self.assertEqual(count_cases(ladder(20), 20), 2 ** 20)
        self.assertEqual(count_cases(rhombs(9), 18), 2 ** 9)

    def test_two_loops(self):
        for length in (3, 4, 10, 199, 200):
            # i steps of the first loop, and k of the second one, each in two ways.
            expected = sum(2 ** (length - 3 - i) for i in range(length - 2))
            self.assertTrue(same(in_time(SECONDS, lambda: count_cases(TWO_LOOPS, length)), expected))
        self.assertEqual(count_cases(LOOPS, 200), self.ways(200))

    def ways(self, length):
        """Counts the ways of LOOPS, a fork of two branches with loops that can be done again."""
        # Each round: "a" or "g", b (c b, d)* i, e* j, f; rounds by their numbers of steps.
        first = [0] * (length + 1)
        first[0] = 1
        for k in range(1, length + 1):
            first[k] = first[k - 1] + (first[k - 2] if k >= 2 else 0)
        rounds = [0] * (length + 1)
        for k in range(5, length + 1):
            rounds[k] = sum(first[i] for i in range(k - 4))
        total = [1] + [0] * length
        found = 0
        for _ in range(length):
            total = [sum(total[k - i] * rounds[i] for i in range(5, k + 1)) for k in range(length + 1)]
            if not any(total):
                break
            found += total[length - 1]
        return found

    def test_the_ends_of_the_range(self):
        for workflow in (P, C, F):
            self.assertTrue(same(count_cases(workflow, 0), 0))
        self.assertTrue(same(count_cases(C, 200), 1))
        self.assertTrue(same([count_cases(F, 199), count_cases(F, 200)], [1, 0]))
        for call in (count_cases, lambda sound, length: case_at(sound, length, 0),
                     lambda sound, length: list(complete_cases(sound, longest=length)),
                     lambda sound, length: Case.numbered(sound, length, 0)):
            for length in (201, -1, True, False, None, "3", (3,), [3], 10 ** 39, {}, (1, [2])):
                self.assertTrue(same(outcome(call, C, length), no_number(length)), length)

    def test_exactly_256_and_257_markings(self):
        self.assertEqual(count_cases(EXACTLY_256, 16), 2 ** 5 * 3)
        for call in (
            lambda sound: count_cases(sound, 16), lambda sound: case_at(sound, 16, 0), case_lengths,
            lambda sound: next(complete_cases(sound)), lambda sound: Case.numbered(sound, 16, 5),
        ):
            self.assertEqual(outcome(call, EXACTLY_256)[0], "returned")
            self.assertTrue(same(outcome(call, EXACTLY_257), TOO_MANY))
        # The run is checked first, then the number of markings, then whether there is such a number.
        run = self.complete_run(EXACTLY_257)
        self.assertEqual(outcome(case_number, EXACTLY_257, run[:-1]), ("raised", "InvalidRun", {"at": 16}))
        self.assertTrue(same(outcome(case_number, EXACTLY_257, run), TOO_MANY))
        self.assertTrue(same(outcome(case_at, EXACTLY_257, 16, 10 ** 39), TOO_MANY))
        self.assertTrue(same(outcome(case_at, EXACTLY_257, 16, -1), no_number(-1)))
        self.assertTrue(same(outcome(case_at, EXACTLY_257, 201, -1), no_number(201)))
        self.assertEqual(case_number(EXACTLY_256, self.complete_run(EXACTLY_256)), 0)

    def complete_run(self, workflow):
        marking, run = plain.first(workflow), ()
        while marking != plain.last(workflow):
            step = plain.enabled(workflow, marking)[0]
            marking, run = plain.done(marking, step), run + (step[0],)
        return run


class CaseAt(unittest.TestCase):

    def test_large_numbers(self):
        last = 2 ** 20 - 1
        self.assertEqual(case_at(ladder(20), 20, 0), tuple("l" + chr(97) + chr(97 + k) for k in range(20)))
        self.assertEqual(case_at(ladder(20), 20, last), tuple("r" + chr(97) + chr(97 + k) for k in range(20)))
        many = count_cases(TWO_LOOPS, 200)
        for number in (0, 1, 12345, many // 3, many - 2, many - 1):
            run = in_time(SECONDS, lambda: case_at(TWO_LOOPS, 200, number))
            self.assertEqual(len(run), 200)
            self.assertTrue(same(case_number(TWO_LOOPS, run), number))
        for number in (many, many + 1, 10 ** 39 * many):
            self.assertTrue(same(outcome(case_at, TWO_LOOPS, 200, number), no_number(number)))

    def test_wrong_numbers(self):
        for number in (2, 3, 10 ** 39, -1, -10 ** 39, True, False, None, "0", (0,), [0], {}, 0.5):
            self.assertTrue(same(outcome(case_at, P, 2, number), no_number(number)), number)
            self.assertTrue(same(outcome(Case.numbered, P, 2, number), no_number(number)), number)
        for length in (0, 1, 3, 199, 200):
            self.assertTrue(same(outcome(case_at, P, length, 0), no_number(0)))

    def test_ascending(self):
        for workflow, length in ((F, 9), (D, 9), (SPLIT, 9), (LOOPS, 9), (branches((2, 3), 1), 7)):
            found = [case_at(workflow, length, number) for number in range(count_cases(workflow, length))]
            keys = [plain_cases.keys(workflow, run) for run in found]
            self.assertEqual(keys, sorted(set(keys)))
            self.assertTrue(all(same(normal_run(workflow, run), run) for run in found))


class CaseNumber(unittest.TestCase):

    def test_the_order_of_the_steps_does_not_matter(self):
        for workflow, length in ((branches((2, 3), 1), 7), (LOOPS, 7), (SPLIT, 9)):
            for number in range(min(count_cases(workflow, length), 8)):
                for run in islice(runs_of_case(workflow, case_at(workflow, length, number)), 10):
                    self.assertTrue(same(case_number(workflow, run), number))

    def test_more_than_200_steps(self):
        run = ("fork", "pay") + ("check", "back") * 549 + ("check", "pass", "join")
        self.assertTrue(same(in_time(SECONDS, lambda: case_number(F, run)), 0))
        run = ("a",) + ("b",) * 3 + ("c",) + ("e",) * 300 + ("f",)
        # Before it come the cases with more steps "b", and those with a "d" in the second loop.
        before = sum(2 ** (303 - more) for more in range(4, 304)) + 2 ** 300 - 1
        self.assertTrue(same(case_number(TWO_LOOPS, run), before))
        self.assertTrue(same(case_number(C, ("begin",) + ("again",) * 5000 + ("stop",)), 0))

    def test_runs_that_are_not_complete(self):
        for run in ODD + (("fork",), ("fork", "pay", "check"), ["fork"], ("fork", "join")):
            found = plain.follow(F, run, plain.first(F))
            at = found if isinstance(found, int) else len(run)
            self.assertTrue(same(outcome(case_number, F, run), ("raised", "InvalidRun", {"at": at})), run)
        self.assertEqual(outcome(case_number, P, ("card", "ship", "ship")), ("raised", "InvalidRun", {"at": 2}))


class CompleteCases(unittest.TestCase):

    def test_default(self):
        self.assertEqual([len(run) for run in complete_cases(F)], [5, 7, 9, 11, 13, 15, 17, 19])
        self.assertEqual(len(list(complete_cases(C))), 19)

    def test_one_by_one(self):
        found = complete_cases(TWO_LOOPS, longest=200)
        self.assertIs(iter(found), found)
        first = in_time(SECONDS, lambda: list(islice(found, 1000)))
        self.assertEqual(first[:4], [("a", "c", "f"), ("a", "b", "c", "f"), ("a", "c", "d", "f"), ("a", "c", "e", "f")])
        keys = [(len(run), plain_cases.keys(TWO_LOOPS, run)) for run in first]
        self.assertEqual(keys, sorted(set(keys)))
        self.assertEqual(first[500], case_at(TWO_LOOPS, len(first[500]), case_number(TWO_LOOPS, first[500])))

    def test_very_few_of_a_length(self):
        # Only one of very many beginnings leads to the end in 200 steps.
        found = in_time(SECONDS, lambda: list(complete_cases(C, longest=200)))
        self.assertEqual([len(run) for run in found], list(range(2, 201)))
        self.assertEqual(len(in_time(SECONDS, lambda: list(complete_cases(LOOP_OF_100, longest=18)))), 2 ** 5)

    def test_lengths(self):
        self.assertEqual(list(complete_cases(P, longest=0)), [])
        self.assertEqual(list(complete_cases(P, longest=1)), [])
        self.assertEqual(len(list(complete_cases(P, longest=200))), 2)
        self.assertEqual(list(complete_cases((2, (("a", (0,), (1,)),)), longest=1)), [("a",)])

    def test_errors_by_the_first_value(self):
        self.assertEqual(outcome(lambda: next(complete_cases(None)))[1], "InvalidWorkflow")
        self.assertEqual(outcome(lambda: next(complete_cases(L)))[1], "NotSound")
        self.assertEqual(outcome(lambda: next(complete_cases(L, longest=201)))[1], "NotSound")
        self.assertTrue(same(outcome(lambda: next(complete_cases(C, longest=201))), no_number(201)))
        self.assertTrue(same(outcome(lambda: next(complete_cases(EXACTLY_257, longest=True))), no_number(True)))
        self.assertTrue(same(outcome(lambda: next(complete_cases(EXACTLY_257, longest=0))), TOO_MANY))


class CaseLengths(unittest.TestCase):

    def test_some(self):
        for workflow, expected in (
            (chain(29), (29, 29)), (choices(40), (1, 1)), (ladder(20), (20, 20)), (branches((2, 3), 4), (10, 10)),
            (TWO_LOOPS, (3, None)), (LOOPS, (6, None)), (D, (4, None)), (SPLIT, (2, None)), (TWINS, (2, None)),
            ((5, (("a", (0,), (2,)), ("b", (0,), (3,)), ("c", (2,), (1,)), ("d", (3,), (4,)), ("e", (4,), (2,)))),
             (2, 4)),
        ):
            self.assertTrue(same(case_lengths(workflow), expected), workflow)

    def test_a_loop_without_tokens_behind_it(self):
        # The loop is one step that gives back what it takes.
        self.assertTrue(same(case_lengths((2, (("a", (0,), (1,)),))), (1, 1)))
        self.assertTrue(same(case_lengths(C), (2, None)))


class Cases(unittest.TestCase):

    def shows(self, case, workflow, run):
        """Fails unless the case tells what it must for this run."""
        normal = plain_cases.case(workflow, run)[0]
        marking = plain_cases.end(workflow, run)
        self.assertTrue(same(
            [case.names, case.marking, case.is_finished, len(case), str(case), list(case.runs())],
            [normal, marking, marking == plain.last(workflow), len(run), " then ".join(normal) or "nothing",
             plain_cases.case(workflow, run)],
        ), (workflow, run))

    def test_small_workflows(self):
        for workflow in some(FEW_RUNS, 60, 42):
            for run in [run for level in plain_cases.runs(workflow, 5) for run in some(level, 4, 43)]:
                self.shows(Case(workflow, run), workflow, run)

    def test_step_by_step(self):
        case, run = Case(F, ()), ()
        self.shows(case, F, run)
        for names in (("fork",), (), ("pay", "check"), ("back",), ("check", "pass", "join"), ()):
            after = case.then(*names)
            self.shows(case, F, run)
            run += names
            self.assertIs(type(after), Case)
            self.shows(after, F, run)
            case = after
        self.assertIs(case.is_finished, True)

    def test_positions_of_wrong_steps(self):
        case = Case(F, ("fork", "pay"))
        for names, at in (
            (("pay",), 0), (("check", "pay"), 1), (("check", "pass", "join", "fork"), 3), (("nosuch",), 0),
            (("check", None), 1), (("check", ["pass"]), 1), ((("check",),), 0), ((True,), 0), (("", "check"), 0),
        ):
            self.assertTrue(same(outcome(case.then, *names), ("raised", "InvalidRun", {"at": at})), names)
            self.shows(case, F, ("fork", "pay"))
        for value in ODD:
            if value not in ("back", "pass"):
                result = outcome(case.then, "check", value)
                self.assertTrue(same(result, ("raised", "InvalidRun", {"at": 1})), value)
        self.assertTrue(same(outcome(Case(P, ("card", "ship")).then, "ship"), ("raised", "InvalidRun", {"at": 0})))

    def test_numbered(self):
        for workflow, length in ((F, 7), (P, 2), (LOOPS, 7), (TWO_LOOPS, 6)):
            for number in range(count_cases(workflow, length)):
                case = Case.numbered(workflow, length, number)
                self.assertIs(type(case), Case)
                self.shows(case, workflow, case_at(workflow, length, number))
                self.assertIs(case.is_finished, True)
                self.assertTrue(case == Case(workflow, ()).numbered(workflow, length, number))
        self.assertTrue(same(outcome(Case.numbered, F, 6, 0), no_number(0)))
        self.assertTrue(same(outcome(Case.numbered, None, 201, -1), ("raised", "InvalidWorkflow", {})))
        self.assertEqual(outcome(Case.numbered, B, 201, -1)[1], "NotSound")

    def test_equal_cases(self):
        case = Case(F, ("fork", "pay", "check"))
        for other in (case, Case(copy_of(F), ("fork", "check", "pay")), Case(F, ("fork",)).then("pay", "check")):
            self.assertIs(case == other, True)
            self.assertIs(other == case, True)
            self.assertIs(case != other, False)
        for other in (
            Case(F, ("fork", "check")), Case(F, ("fork", "pay", "check", "back")), Case(F, ()), Case(C, ()),
            Case((4, C[1] + (("z", (2,), (3,)), ("zz", (3,), (1,)))), ()), ("fork", "pay", "check"), None, True, F,
            "fork then check then pay", Walk.along(F, ("fork", "pay", "check")), case.runs(), [case], Case, 3,
        ) + ODD:
            self.assertIs(case == other, False, other)
            self.assertIs(other == case, False, other)
            self.assertIs(case != other, True, other)
        self.assertIs(Case(C, ()) == Case(P, ()), False)
        # They lead to the same marking, but one has a round more.
        self.assertIs(Case(F, ("fork", "check", "back")) == Case(F, ("fork",)), False)
        self.assertIs(Case(TWINS, ("a",)) == Case(TWINS, ("b",)), False)

    def test_words(self):
        self.assertEqual([str(Case(F, ())), str(Case(F, ("fork",))), str(Case(P, ("cash", "ship")))],
                         ["nothing", "fork", "cash then ship"])

    def test_properties_cannot_be_assigned(self):
        case = Case(F, ("fork",))
        for name, value in (("names", ()), ("marking", (1, 0, 0, 0, 0, 0, 0)), ("is_finished", True)):
            self.assertRaises(AttributeError, setattr, case, name, value)
            self.assertIsInstance(vars(Case)[name], property)
        self.shows(case, F, ("fork",))

    def test_what_was_returned_stays(self):
        case = Case(F, ("fork", "pay"))
        found = case.runs()
        first = next(found)
        told = [case.names, case.marking, len(case)]
        case.then("check", "back")
        list(case.runs()).append(())
        outcome(case.then, "pay")
        self.assertTrue(same(told, [case.names, case.marking, len(case)]))
        self.assertEqual([first] + list(found), [("fork", "pay")])

    def test_what_was_passed_may_change(self):
        names = ["fork", "pay"]
        case = Case(F, tuple(names))
        names.clear()
        self.shows(case, F, ("fork", "pay"))

    def test_long_runs(self):
        run = ("fork", "pay") + ("check", "back") * 549
        case = in_time(SECONDS, lambda: Case(F, run))
        self.assertEqual([len(case), case.marking], [1100, marking_after(F, run)])
        self.assertEqual([other.index("pay") for other in islice(case.runs(), 3)], [2, 4, 6])
        self.assertEqual(len(case.then(*["check", "back"] * 500)), 2100)
        self.assertEqual(str(Case(C, ("begin",) + ("again",) * 2000)).count("again"), 2000)

    def test_errors(self):
        for value in list(ODD) + [list(C)]:
            if not plain.is_workflow(value):
                self.assertEqual(outcome(Case, value, ("nosuch",)), ("raised", "InvalidWorkflow", {}))
        for workflow in (B, L) + tuple(some(NOT_SOUND, 10, 44)):
            for run in ((), ("nosuch",), None):
                result = outcome(Case, workflow, run)
                self.assertEqual(result[:2], ("raised", "NotSound"))
                self.assertIs(is_structure_paper(workflow, result[2]["paper"]), True)
        for run in ODD:
            found = plain.follow(F, run, plain.first(F))
            if isinstance(found, int):
                self.assertTrue(same(outcome(Case, F, run), ("raised", "InvalidRun", {"at": found})), run)
        # The number of markings does not matter for a case itself.
        self.assertEqual(len(Case(EXACTLY_257, ("baa", "bab", "bac", "fork"))), 4)
        self.assertEqual(len(list(Case(branches((2,) * 7, 0), ("fork", "waaaa", "wabaa")).runs())), 2)

    def test_count_of_runs(self):
        case = Case(LOOPS, ("a",) + ("b", "d", "d") + ("e",) * 3)
        self.assertEqual(len(list(case.runs())), comb(6, 3))


if __name__ == "__main__":
    unittest.main()
