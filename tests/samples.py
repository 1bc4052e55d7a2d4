"""Nets and values that several tests use."""

import signal
from string import ascii_lowercase

from caseflow.cases.numbers import Case
from caseflow.errors import TooMany
from caseflow.nets.runs import all_runs
from caseflow.nets.walks import Walk
from caseflow.office.office import Office
from caseflow.terms.terms import Do
from caseflow.text.shell import Shell

F = (7, (("back", (4,), (2,)), ("check", (2,), (4,)), ("fork", (0,), (2, 3)),
         ("join", (5, 6), (1,)), ("pass", (4,), (5,)), ("pay", (3,), (6,))))
P = (3, (("card", (0,), (2,)), ("cash", (0,), (2,)), ("ship", (2,), (1,))))
C = (3, (("again", (2,), (2,)), ("begin", (0,), (2,)), ("stop", (2,), (1,))))
B = (4, (("both", (2, 3), (1,)), ("left", (0,), (2,)), ("right", (0,), (3,))))
L = (4, (("fork", (0,), (2, 3)), ("left", (2,), (1,)), ("right", (3,), (1,))))

A = (4, (("air", (0,), (2,)), ("fly", (2,), (1,)), ("sail", (3,), (1,)), ("sea", (0,), (3,))))

# The places 2 and 7 are never marked together, but such a marking could be finished, too.
D = (8, (("again", (4, 5), (2, 3)), ("begin", (0,), (2, 3)), ("end", (4, 5), (1,)), ("left", (2,), (4,)),
         ("other", (4, 5), (6, 7)), ("right", (3,), (5,)), ("up", (6,), (4,)), ("upper", (7,), (5,))))

WORKFLOWS = (F, P, C, B, L)

# "grow" leaves a token on the start and puts one more on place 2.
PILE = (3, (("grow", (0,), (0, 2)), ("use", (2,), (1,))))
# The inputs overlap without being equal.
OVERLAP = (4, (("a", (0,), (2,)), ("b", (0, 3), (1,))))
# There is no path from the start to the end.
APART = (4, (("a", (0,), (2,)), ("b", (3,), (1,))))
# The start is an input and an output of one step, which leads nowhere else.
STILL = (2, (("stay", (0,), (0,)),))
# The end is an input.
BACK = (3, (("a", (0,), (1,)), ("b", (1,), (2,)), ("c", (2,), (0, 1))))

NETS = WORKFLOWS + (PILE, OVERLAP, APART, STILL, BACK)


def label(number):
    """Returns a name of two letters; they ascend with the number."""
    return ascii_lowercase[number // 26] + ascii_lowercase[number % 26]


def chain(many):
    """Returns the workflow with so many steps, one after another."""
    at = [0] + list(range(2, many + 1)) + [1]
    return (many + 1, tuple((label(k), (at[k],), (at[k + 1],)) for k in range(many)))


def choices(many):
    """Returns the workflow with so many steps side by side."""
    return (2, tuple((label(k), (0,), (1,)) for k in range(many)))


def wide(many):
    """Returns a net: a fork to so many places, and a step from each to the end."""
    steps = [("fork", (0,), tuple(range(2, many + 2)))]
    steps += [("s" + label(k), (k + 2,), (1,)) for k in range(many)]
    return (many + 2, tuple(sorted(steps)))


def nested(kind, depth):
    """Returns a value of this kind that is nested so deep."""
    value = 0
    for _ in range(depth):
        value = {"a": value} if kind is dict else kind([value])
    return value


ODD = (
    None, True, False, -1, 0, 1, 2, 3, 7, 31, 10 ** 9, 10 ** 39, -10 ** 39,
    "", "a", "fork", "back", "nosuch", "Fork", "fork\n", "f rk", "caf\u00e9", "x" * 8, "x" * 9, "x" * 40,
    (), (0,), (1,), (0, 1), (1, 0), (0, 0), (2, 3), (True,), (False, True), (None,), (-1,), (10 ** 5000,),
    ("fork",), ("fork", "pay"), ("begin", "stop"), ("card", "ship"), (("fork",),), ("fork", None), (1, 0, 0),
    [], [0], [0, 1], ["fork"], ["begin", "stop"], [1, 0, 0], [[]],
    {}, {0: 1}, {"fork": (0,)}, {(1, 0, 0): (0, 2)}, {(1, 0, 0): 0, (0, 0, 1): 1},
    ((0,), (0,)), (("a", (0,), (1,)),), (2, ("a", (0,), (1,))), (2, ()), (((0,), ("fork",)),),
    nested(tuple, 10), nested(list, 10), nested(dict, 10),
    all_runs(C, length=1), Walk.along(C, ("begin",)), Case(C, ("begin",)), Do("fork"), Office(), Shell(), TooMany(3),
) + NETS


def parts(value):
    """Yields the positions of all parts of a nested tuple, as paths; () is the whole."""
    yield ()
    if isinstance(value, tuple):
        for at, part in enumerate(value):
            for path in parts(part):
                yield (at,) + path


def part_at(value, path):
    """Returns the part of the value at the path."""
    for at in path:
        value = value[at]
    return value


def replaced(value, path, other):
    """Returns the value with another part at the path."""
    if path == ():
        return other
    at = path[0]
    return value[:at] + (replaced(value[at], path[1:], other),) + value[at + 1:]


def variants(value):
    """Yields the value with each of its parts replaced, left out, or put twice."""
    for path in parts(value):
        part = part_at(value, path)
        for other in ODD:
            yield replaced(value, path, other)
        if isinstance(part, tuple):
            yield replaced(value, path, list(part))
            yield replaced(value, path, part[::-1])
            yield replaced(value, path, part + part)
            yield replaced(value, path, part[1:])
            yield replaced(value, path, part[:-1])
        if isinstance(part, int):
            yield replaced(value, path, part + 1)
            yield replaced(value, path, part - 1)
            yield replaced(value, path, bool(part))
            yield replaced(value, path, str(part))
        if isinstance(part, str):
            yield replaced(value, path, part.upper())
            yield replaced(value, path, tuple(part))


def same(one, other):
    """Returns whether two values are equal, and of equal kinds throughout."""
    if type(one) is not type(other):
        return False
    if isinstance(one, (list, tuple)):
        return len(one) == len(other) and all(same(a, b) for a, b in zip(one, other))
    if isinstance(one, dict):
        return same(list(one), list(other)) and all(same(one[k], other[k]) for k in one)
    return one == other


def copy_of(value):
    """Returns an equal value that shares no list and no dict with this one; generators cannot be copied."""
    if isinstance(value, dict):
        return {key: copy_of(part) for key, part in value.items()}
    if isinstance(value, (list, tuple)):
        return type(value)(copy_of(part) for part in value)
    return value


def outcome(call, *args, **more):
    """Returns what a call returns or raises, as a value that can be compared.

    What a generator yields is taken as a tuple.
    """
    try:
        result = call(*args, **more)
        return ("returned", tuple(result) if hasattr(result, "send") else result)
    except Exception as error:
        return ("raised", type(error).__name__, vars(error))


class Late(Exception):
    """A call took too long."""


def _stop(number, frame):
    raise Late


def in_time(seconds, call):
    """Returns what the call returns; raises Late if it takes longer than this."""
    before = signal.signal(signal.SIGALRM, _stop)
    signal.alarm(seconds)
    try:
        return call()
    finally:
        signal.alarm(0)
        signal.signal(signal.SIGALRM, before)
