"""Cases: runs that differ only in the order of steps that do not depend on one another."""

from caseflow.basics import is_integer_within
from caseflow.cases.choices import Choices, normal_form, orders_of_case
from caseflow.errors import TooMany
from caseflow.nets.nets import have_common
from caseflow.nets.runs import MAX_MARKINGS, follow_run, one_token
from caseflow.sound.structure import check_sound


def normal_run(sound, run):
    """Returns the normal run of the case of the run."""
    check_sound(sound)
    _check_run(sound, run)
    return normal_form(sound, run)


def same_case(sound, one, other):
    """Returns whether the two runs belong to the same case."""
    _check_two_runs(sound, one, other)
    return _choose_the_same(sound, one, other)


def exchanges(sound, one, other):
    """Returns positions at which exchanges lead from one run to the other, or None."""
    _check_two_runs(sound, one, other)
    if not _choose_the_same(sound, one, other):
        return None
    names = list(one)
    found = []
    for at, name in enumerate(other):
        # All that stands between these positions comes behind this step in the other run.
        position = names.index(name, at)
        found.extend(list(reversed(range(at, position))))
        names.insert(at, names.pop(position))
    return tuple(found)


def are_exchanges(sound, one, other, value):
    """Returns whether the value is a tuple of positions of such exchanges."""
    _check_two_runs(sound, one, other)
    if not isinstance(value, tuple):
        return False
    steps = {step[0]: step for step in sound[1]}
    names = list(one)
    for at in value:
        if not is_integer_within(at, 0, len(names) - 2) or depend(steps[names[at]], steps[names[at + 1]]):
            return False
        names[at], names[at + 1] = names[at + 1], names[at]
    return tuple(names) == other


def difference(sound, one, other):
    """Returns a difference of the two runs, or None if they belong to the same case."""
    _check_two_runs(sound, one, other)
    ones = Choices(sound, one).names_chosen()
    others = Choices(sound, other).names_chosen()
    for names, rest in zip(ones, others):
        if names != rest:
            return _first_difference(names, rest)
    return None


def is_difference(sound, one, other, value):
    """Returns whether the value is a difference of the two runs."""
    _check_two_runs(sound, one, other)
    if not isinstance(value, tuple) or len(value) != 2:
        return False
    steps = {step[0]: step for step in sound[1]}
    if not all([isinstance(name, str) and name in steps for name in value]) or value[0] > value[1]:
        return False
    if not depend(steps[value[0]], steps[value[1]]):
        return False
    return [name for name in one if name in value] != [name for name in other if name in value]


def count_orders(sound, run):
    """Returns the number of runs that belong to the case of the run."""
    check_sound(sound)
    _check_run(sound, run)
    choices = Choices(sound, run)
    ways = {choices.begin: 1}
    many = 1
    for _ in run:
        following = {}
        for state in ways:
            for cluster in choices.ready(state):
                _, after = choices.go_on(state, cluster)
                following[after] = following.get(after, 0) + ways[state]
            if many + len(following) > MAX_MARKINGS:
                raise TooMany(MAX_MARKINGS)
        many += len(following)
        ways = following
    return sum(ways.values())


def runs_of_case(sound, run):
    """Yields the runs that belong to the case of the run, ascending, the normal run first."""
    check_sound(sound)
    _check_run(sound, run)
    yield from orders_of_case(sound, run)


def depend(step, other):
    """Returns whether the two steps depend on one another."""
    # A step has its inputs in common with itself, too.
    return have_common(step[1], other[1] + other[2]) or have_common(other[1], step[2])


def _check_run(sound, run):
    follow_run(sound, run, one_token(sound, 0))


def _check_two_runs(sound, one, other):
    check_sound(sound)
    _check_run(sound, one)
    _check_run(sound, other)


def _choose_the_same(sound, one, other):
    return Choices(sound, one).names_chosen() == Choices(sound, other).names_chosen()


def _first_difference(names, rest):
    """Returns a difference of runs that choose these different names in one cluster."""
    for name, other in zip(names, rest):
        if name != other:
            return (min(name, other), max(name, other))
    # One of them goes on where the other one ends, so it has this name once more.
    longer = max(names, rest, key=len)
    name = longer[min(len(names), len(rest))]
    return (name, name)
