"""Logs, alignments and correction bounds."""

import unittest
from random import Random

from caseflow.office.logs import (
    completion, correction_bound, is_alignment, is_correction_bound, least_alignment, log_beginning,
)
from caseflow.sound.papers import is_structure_paper
from tests import plain, plain_logs
from tests.built import END_BEHIND_4096, END_BEHIND_4097, FAULT_BEHIND_4096, GROW, MARKINGS_4096, UNSOUND, boxes, ones
from tests.pools import LATE, LOOPS, NOT_SOUND, SOUND, SPLIT, TWINS, small, some
from tests.samples import (
    A, APART, B, C, D, F, L, ODD, OVERLAP, P, PILE, STILL, chain, choices, copy_of, in_time, label, outcome, same, variants,
)

TOO_MANY = ("raised", "TooMany", {"limit": 4096})
SECONDS = 20


def drawn_run(chance, workflow, most):
    """Returns a run of at most so many steps."""
    marking, run = plain.first(workflow), ()
    while len(run) < most and plain.enabled(workflow, marking):
        step = chance.choice(plain.enabled(workflow, marking))
        run += (step[0],)
        marking = plain.done(marking, step)
    return run


def drawn_log(chance, workflow, most):
    """Returns a run in which some names are left out, put twice, exchanged, or others."""
    log = list(drawn_run(chance, workflow, most))
    for _ in range(chance.choice((0, 0, 1, 2, 4))):
        at = chance.randint(0, len(log))
        kind = chance.choice(("out", "in", "swap", "other"))
        if kind == "in":
            log.insert(at, chance.choice([step[0] for step in workflow[1]] + ["other"]))
        elif kind == "out":
            del log[at:at + 1]
        elif kind == "swap":
            log[at:at + 2] = reversed(log[at:at + 2])
        else:
            log[at:at + 1] = [chance.choice(workflow[1])[0]]
    return tuple(log[:60])


def cases(many, seed):
    """Returns pairs of a small sound workflow and a log."""
    chance = Random(seed)
    pool = [F, C, P, A, D, TWINS, LATE, SPLIT, LOOPS] + some(small(SOUND, 8), 60, seed)
    found = []
    for _ in range(many):
        workflow = chance.choice(pool)
        found.append((workflow, drawn_log(chance, workflow, chance.choice((0, 2, 5, 9, 14)))))
    return found


CASES = cases(160, 471)


class Beginnings(unittest.TestCase):

    def test_compared(self):
        complete = 0
        for workflow, log in CASES:
            self.assertTrue(same(log_beginning(workflow, log), plain_logs.beginning(workflow, log)), (workflow, log))
            found = completion(workflow, log)
            passed = plain.follow(workflow, log, plain.first(workflow))
            if type(passed) is not list:
                self.assertIsNone(found)
                continue
            complete += 1
            self.assertEqual(found[:len(log)], log)
            self.assertEqual(plain.follow(workflow, found, plain.first(workflow))[-1], plain.last(workflow))
            least = plain_logs.distances(workflow, passed[-1])[plain.last(workflow)]
            self.assertEqual(len(found), len(log) + least, (workflow, log))
        self.assertGreater(complete, 40)

    def test_some(self):
        self.assertTrue(same([log_beginning(C, ()), completion(C, ())], [0, ("begin", "stop")]))
        self.assertTrue(same([log_beginning(C, ("begin", "stop")), completion(C, ("begin", "stop"))], [2, ("begin", "stop")]))
        self.assertEqual([log_beginning(C, ("begin", "stop", "stop")), completion(C, ("begin", "stop", "stop"))], [2, None])
        self.assertEqual([log_beginning(F, ("nosuch", "fork")), log_beginning(F, ("fork",) * 60)], [0, 1])
        self.assertEqual(log_beginning(C, ("begin",) + ("again",) * 59), 60)
        self.assertEqual(completion(C, ("begin",) + ("again",) * 59), ("begin",) + ("again",) * 59 + ("stop",))


class Alignments(unittest.TestCase):

    def test_compared(self):
        for workflow, log in CASES:
            least = plain_logs.corrections(workflow, log)[plain.last(workflow), len(log)]
            found = least_alignment(workflow, log)
            self.assertIs(plain_logs.is_alignment(workflow, log, found), True, (workflow, log, found))
            self.assertIs(is_alignment(workflow, log, found), True)
            self.assertEqual(plain_logs.number_of_corrections(found), least, (workflow, log))
            bound = correction_bound(workflow, log)
            self.assertIs(plain_logs.is_bound(workflow, log, bound), True, (workflow, log))
            self.assertIs(is_correction_bound(workflow, log, bound), True)
            self.assertEqual(bound.get((plain.first(workflow), 0), 0), least)
            self.assertEqual(list(bound), sorted(bound))
            if least == 0:
                self.assertTrue(same(bound, {}))

    def test_any_number_of_corrections(self):
        chance = Random(472)
        for workflow, log in some(CASES, 60, 473):
            run = completion(workflow, drawn_run(chance, workflow, 9))
            worst = tuple(("log", name) for name in log) + tuple(("run", name) for name in run)
            for value in (worst, worst[::-1], tuple(sorted(worst)), least_alignment(workflow, log) + (("log", "x"),)):
                expected = plain_logs.is_alignment(workflow, log, value)
                self.assertIs(is_alignment(workflow, log, value), expected)
            self.assertIs(is_alignment(workflow, log, worst), True)
            for _ in range(5):
                mixed = list(worst)
                for _ in range(3):
                    at = chance.randrange(len(mixed))
                    kind, name = mixed[at]
                    mixed[at] = (chance.choice(("both", "log", "run")), chance.choice((name, name, "stop")))
                value = tuple(mixed)
                self.assertIs(is_alignment(workflow, log, value), plain_logs.is_alignment(workflow, log, value))

    def test_one_thing_otherwise(self):
        for workflow, log in some([case for case in CASES if len(case[1]) < 8], 25, 474):
            found = least_alignment(workflow, log)
            tried = [list(found), found + found, dict(found), [list(pair) for pair in found]]
            for at, (kind, name) in enumerate(found):
                tried += [found[:at] + found[at + 1:], found[:at + 1] + found[at:], found[:at] + found[at:][::-1]]
                tried += [found[:at] + ((other, name),) + found[at + 1:] for other in ("both", "log", "run", "Both", None, "")]
                tried += [found[:at] + (other,) + found[at + 1:] for other in (
                    [kind, name], (kind,), (kind, name, name), (name, kind), None, kind, (kind, None), (kind, [name]))]
            for value in tried:
                expected = plain_logs.is_alignment(workflow, log, value)
                self.assertIs(is_alignment(workflow, log, value), expected, (workflow, log, value))

    def test_every_value(self):
        log = ("ship", "card")
        right = (("run", "cash"), ("both", "ship"), ("log", "card"))
        for value in list(variants(right)) + list(ODD) + ["x" * 100000, "\x00"]:
            self.assertIs(is_alignment(P, log, value), plain_logs.is_alignment(P, log, value), value)

    def test_long_logs(self):
        for workflow in (C, F, D, LOOPS, chain(29), choices(40)):
            chance = Random(475)
            for many in (59, 60):
                log = tuple(chance.choice(workflow[1])[0] for _ in range(many))
                found = in_time(SECONDS, lambda: least_alignment(workflow, log))
                least = plain_logs.corrections(workflow, log)[plain.last(workflow), many]
                self.assertEqual(plain_logs.number_of_corrections(found), least)
                self.assertIs(is_alignment(workflow, log, found), True)
                bound = in_time(SECONDS, lambda: correction_bound(workflow, log))
                self.assertEqual(bound[plain.first(workflow), 0], least)
                self.assertIs(is_correction_bound(workflow, log, bound), True)


class Bounds(unittest.TestCase):

    def test_one_thing_otherwise(self):
        chance = Random(476)
        right = 0
        for workflow, log in some([case for case in CASES if correction_bound(*case)], 40, 477):
            bound = correction_bound(workflow, log)
            tried = [{}, {key: number + 1 for key, number in bound.items()}, list(bound), tuple(bound.items())]
            tried.append({key: max(1, number - 1) for key, number in bound.items()})
            tried.append({key: number - 1 for key, number in bound.items() if number > 1})
            for key in some(bound, 6, 478):
                tried.append({other: number for other, number in bound.items() if other != key})
                tried += [{**bound, key: number} for number in (
                    bound[key] + 1, bound[key] - 1, 1, 0, -1, True, None, "1", (1,), [1], {})]
                marking, position = key
                for other in (
                    marking, position, (marking,), (marking, position, 1), (position, marking), (marking, str(position)),
                    (marking, len(log) + 1), (marking, -1), (marking + (0,), position), (marking[1:], position), None,
                    (tuple(bool(tokens) for tokens in marking), position) if position == 0 else (marking, True),
                ):
                    less = {k: number for k, number in bound.items() if k != key}
                    tried.append({**less, other: bound[key]})
            tried.append({**bound, (plain.last(workflow), len(log)): 1})
            tried.append({**bound, (plain.first(workflow)[::-1], 0): chance.randint(1, 3)})
            for value in tried:
                expected = plain_logs.is_bound(workflow, log, value)
                self.assertIs(is_correction_bound(workflow, log, value), expected, (workflow, log, value))
                right += expected
        self.assertGreater(right, 80)

    def test_markings_that_do_not_occur(self):
        # From there no step leads on, so only names of the log can be left out.
        for log, value, expected in (
            ((), {((0, 0, 0), 0): 5}, True), (("begin",), {((0, 0, 0), 0): 5}, False),
            (("begin",), {((0, 0, 0), 0): 5, ((0, 0, 0), 1): 4}, True), (("begin",), {((0, 0, 0), 0): 1}, True),
            ((), {((0, 10 ** 9, 0), 0): 3}, True), ((), {((0, 10 ** 9 + 1, 0), 0): 3}, False),
            ((), {((0, 10 ** 9, 1), 0): 1}, True), ((), {((0, 10 ** 9, 1), 0): 2}, False),
            ((), {((0, 3, 1), 0): 2}, False), ((), {((0, 3, 1), 0): 2, ((0, 4, 0), 0): 1}, True),
            ((), {((0, 3, 1), 0): 2, ((0, 4, 0), 0): 2, ((0, 3, 0), 0): 9}, True), ((), {((0, 1, 0), 0): 1}, False),
            (("stop",), {((0, 1, 0), 0): 1}, True), (("stop",), {((0, 1, 0), 0): 2}, False),
            (("stop",), {((0, 0, 1), 0): 1}, False), (("again",), {((0, 0, 1), 0): 1}, False),
            (("again",), {((0, 0, 1), 0): 1, ((0, 0, 1), 1): 1}, True),
            (("again",), {((0, 0, 1), 0): 2, ((0, 0, 1), 1): 1}, False), ((), {((0, 0, 2), 0): 10 ** 5000}, False),
            ((), {((0, 5, 0), 0): 10 ** 5000}, True),
        ):
            self.assertIs(plain_logs.is_bound(C, log, value), expected, value)
            self.assertIs(is_correction_bound(C, log, value), expected, value)

    def test_every_value(self):
        log = ("ship",)
        right = {((1, 0, 0), 0): 1}
        for value in ODD + ("x" * 100000, "\x00", right, {**right, None: 1}, {**right, "a": 1}, {((1, 0, 0), 0): 2}):
            self.assertIs(is_correction_bound(P, log, value), plain_logs.is_bound(P, log, value), value)
        for key in variants(((1, 0, 0), 0)):
            try:
                value = {key: 1}
            except TypeError:
                continue
            self.assertIs(is_correction_bound(P, log, value), plain_logs.is_bound(P, log, value), value)


class Limits(unittest.TestCase):

    def test_completion(self):
        for workflow, result in ((END_BEHIND_4096, None), (END_BEHIND_4097, TOO_MANY)):
            last = plain.last(workflow)
            least = plain_logs.distances(workflow, plain.first(workflow))[last]
            found = in_time(SECONDS, lambda: outcome(completion, workflow, ()))
            if result is None:
                self.assertEqual(len(found[1]), least)
            else:
                self.assertEqual(found, result)
            # From the next marking on there is one marking less.
            first = [step[0] for step in workflow[1] if step[1] == (0,)]
            found = in_time(SECONDS, lambda: completion(workflow, tuple(first)))
            self.assertEqual(len(found), least)
            self.assertEqual(in_time(SECONDS, lambda: completion(workflow, found)), found)
            self.assertIsNone(completion(workflow, found + found[:1]))

    def test_alignments(self):
        for workflow, result in ((END_BEHIND_4096, None), (END_BEHIND_4097, TOO_MANY)):
            # With an empty log the pairs are the markings, and all steps are corrections.
            pairs = plain_logs.corrections(workflow, ())
            least = pairs[plain.last(workflow), 0]
            many = len([pair for pair in pairs if pairs[pair] < least])
            self.assertEqual(many, 4096 if result is None else 4097)
            for function in (least_alignment, correction_bound):
                found = in_time(SECONDS, lambda: outcome(function, workflow, ()))
                if result is not None:
                    self.assertEqual(found, result)
                elif function == least_alignment:
                    self.assertEqual(len(found[1]), least)
                    self.assertIs(is_alignment(workflow, (), found[1]), True)
                else:
                    self.assertEqual([len(found[1]), found[1][plain.first(workflow), 0]], [4096, least])
                    self.assertIs(is_correction_bound(workflow, (), found[1]), True)
            # A log that is a complete run has an alignment without corrections in a workflow of any size.
            run = ()
            marking = plain.first(workflow)
            while plain.enabled(workflow, marking):
                step = plain.enabled(workflow, marking)[0]
                run += (step[0],)
                marking = plain.done(marking, step)
            self.assertEqual(least_alignment(workflow, run), tuple(("both", name) for name in run))
            self.assertEqual(correction_bound(workflow, run), {})

    def test_limit_with_a_log(self):
        """The pairs are counted, not the markings, and those with as many corrections as the end do not count."""
        found = {True: 0, False: 0}
        for sizes in ((3, 3, 3), (3, 3, 4), (4, 4, 4), (3, 4, 5), (5, 5, 5), (2, 5, 9), (3, 8, 8)):
            workflow = boxes(sizes, [one for one in ones(3)], 2)
            for many in (3, 6, 9, 12, 30, 60):
                chance = Random(sum(sizes) * many)
                log = tuple(chance.choice(workflow[1])[0] for _ in range(many))
                pairs = plain_logs.corrections(workflow, log)
                least = pairs[plain.last(workflow), many]
                before = len([pair for pair in pairs if pairs[pair] < least])
                result = in_time(SECONDS, lambda: outcome(least_alignment, workflow, log))
                self.assertEqual(result[0] == "returned", before <= 4096, (sizes, many, before))
                bound = in_time(SECONDS, lambda: outcome(correction_bound, workflow, log))
                if before <= 4096:
                    self.assertEqual(plain_logs.number_of_corrections(result[1]), least)
                    self.assertEqual(len(bound[1]), before)
                else:
                    self.assertEqual([result, bound], [TOO_MANY, TOO_MANY])
                found[before <= 4096] += 1
        self.assertGreater(min(found.values()), 3)

    def test_large_workflows_in_time(self):
        names = [step[0] for step in MARKINGS_4096[1]]
        for workflow in (MARKINGS_4096, END_BEHIND_4097, choices(40), boxes((2,) * 12, [(0,) * 12], 2)):
            for log in ((), tuple(names[:20]), (label(0),) * 60, ("x",) * 60):
                for function in (least_alignment, correction_bound, completion, log_beginning):
                    result = in_time(SECONDS, lambda: outcome(function, workflow, log))
                    self.assertIn(result[0] if result[0] == "returned" else result, ("returned", TOO_MANY))


class Errors(unittest.TestCase):

    FUNCTIONS = (
        (log_beginning, ()), (completion, ()), (least_alignment, ()), (is_alignment, ((),)), (correction_bound, ()),
        (is_correction_bound, ({},)),
    )

    def test_logs(self):
        for function, more in self.FUNCTIONS:
            for value in list(ODD) + [
                ["begin"], ("begin", None), ("Begin",), ("begin", ""), "begin", ("begin", "abcdefghi"), ("begin", ("stop",)),
                ("begin",) * 60, ("begin",) * 61, ("nosuch",) * 60, ("begin ",), ("begin\n",), {"begin": 1}, (b"begin",),
            ]:
                result = outcome(function, C, value, *more)
                if plain_logs.is_log(value):
                    self.assertEqual(result[0], "returned", (function, value))
                else:
                    self.assertEqual(result, ("raised", "InvalidLog", {}), (function, value))
            self.assertEqual(outcome(function, END_BEHIND_4097, ("x",) * 61, *more), ("raised", "InvalidLog", {}))

    def test_workflows(self):
        wrong = [value for value in ODD if not plain.is_net(value) or plain.defects(value)]
        for function, more in self.FUNCTIONS:
            for value in wrong + [PILE, OVERLAP, APART, STILL, list(C)]:
                for log in ((), None):
                    self.assertEqual(outcome(function, value, log, *more), ("raised", "InvalidWorkflow", {}), value)
            for workflow in (B, L, GROW, UNSOUND, FAULT_BEHIND_4096) + tuple(some(NOT_SOUND, 8, 479)):
                for log in ((), None, ("x",) * 61):
                    result = outcome(function, workflow, log, *more)
                    self.assertEqual(result[:2], ("raised", "NotSound"))
                    self.assertIs(is_structure_paper(workflow, result[2]["paper"]), True)
                    self.assertNotEqual(result[2]["paper"][0], "sound")

    def test_arguments_are_not_changed(self):
        for value in (["begin"], {"begin": [1]}, (("both", ["begin"]),), {((1, 0, 0), 0): [1]}, [["begin"], []]):
            before = copy_of(value)
            for function, more in self.FUNCTIONS:
                outcome(function, value, (), *more)
                outcome(function, C, value, *more)
            is_alignment(C, ("begin",), value)
            is_correction_bound(C, ("begin",), value)
            self.assertTrue(same(value, before))
        bound = correction_bound(P, ("ship",))
        before = copy_of(bound)
        is_correction_bound(P, ("ship",), bound)
        self.assertTrue(same(bound, before))
        bound.clear()
        self.assertTrue(same(correction_bound(P, ("ship",)), before))

    def test_equal_calls(self):
        for workflow, log in some(CASES, 30, 480):
            for function in (log_beginning, completion, least_alignment, correction_bound):
                self.assertTrue(same(function(workflow, log), function(copy_of(workflow), copy_of(log))))


if __name__ == "__main__":
    unittest.main()
