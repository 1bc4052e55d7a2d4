"""What the document says of faults, cases and their numbers, written down once more."""

from itertools import combinations_with_replacement

from tests import plain, plain_algebra


def depend(one, other):
    if one == other:
        return True
    return bool(set(one[1]) & set(other[1] + other[2]) or set(other[1]) & set(one[1] + one[2]))


def step(workflow, name):
    return [found for found in workflow[1] if found[0] == name][0]


def keys(workflow, run):
    """Returns the pairs by which runs are compared."""
    numbers = {found[0]: at for at, steps in enumerate(plain_algebra.groups(workflow)) for found in steps}
    return tuple((numbers[name], name) for name in run)


def exchanged(workflow, run):
    """Returns the runs to which one exchange of neighbours leads."""
    found = []
    for at in range(len(run) - 1):
        if not depend(step(workflow, run[at]), step(workflow, run[at + 1])):
            found.append(run[:at] + (run[at + 1], run[at]) + run[at + 2:])
    return found


def case(workflow, run):
    """Returns all runs of the case, in their order, found by exchanging neighbours."""
    found = {run}
    waiting = [run]
    while waiting:
        for other in exchanged(workflow, waiting.pop()):
            if other not in found:
                found.add(other)
                waiting.append(other)
    return sorted(found, key=lambda other: keys(workflow, other))


def runs(workflow, longest):
    """Returns all runs of at most so many steps, in a list for each number of steps."""
    return [plain.runs(workflow, length) for length in range(longest + 1)]


def end(workflow, run):
    return plain.follow(workflow, run, plain.first(workflow))[-1]


def complete_runs(workflow, longest):
    return [[run for run in level if end(workflow, run) == plain.last(workflow)] for level in runs(workflow, longest)]


def complete_cases(workflow, longest):
    """Returns, for each number of steps, a list of cases, each a list of runs, in the order of their numbers."""
    found = []
    for level in complete_runs(workflow, longest):
        cases = {tuple(case(workflow, run)) for run in level}
        found.append(sorted([list(runs) for runs in cases], key=lambda runs: keys(workflow, runs[0])))
    return found


def differences(workflow, one, other):
    """Returns all differences of two runs."""
    names = [found[0] for found in workflow[1]]
    found = []
    for pair in combinations_with_replacement(names, 2):
        left = [[name for name in run if name in pair] for run in (one, other)]
        if depend(step(workflow, pair[0]), step(workflow, pair[1])) and left[0] != left[1]:
            found.append(pair)
    return found


def are_exchanges(workflow, one, other, value):
    if type(value) is not tuple:
        return False
    run = one
    for at in value:
        if type(at) is not int or not 0 <= at <= len(run) - 2:
            return False
        if depend(step(workflow, run[at]), step(workflow, run[at + 1])):
            return False
        run = run[:at] + (run[at + 1], run[at]) + run[at + 2:]
    return run == other


def is_fault_at(workflow, marking):
    """Returns whether something is left behind the end, or a siphon with the end has no token."""
    if marking[1] and sum(marking) > marking[1]:
        return True
    empty = [place for place in range(workflow[0]) if marking[place] == 0]
    while True:
        fed = [p for p in empty if any(p in outs and not set(ins) & set(empty) for _, ins, outs in workflow[1])]
        if not fed:
            return 1 in empty
        empty = [place for place in empty if place not in fed]


def shortest_fault(workflow):
    """Returns the number of steps of the shortest fault and that of the markings with shorter runs, or None."""
    known = []
    level = [plain.first(workflow)]
    many = 0
    while level:
        if any(is_fault_at(workflow, marking) for marking in level):
            return many, len(known)
        known += level
        after = {plain.done(marking, found) for marking in level for found in plain.enabled(workflow, marking)}
        level = sorted(after - set(known))
        many += 1
    return None


def is_fault(workflow, value):
    if type(value) is not tuple or len(value) not in (2, 3):
        return False
    passed = plain.follow(workflow, value[1], plain.first(workflow))
    if type(passed) is not list:
        return False
    marking = passed[-1]
    if len(value) == 2:
        return value[0] == "left" and marking[1] > 0 and sum(marking) > marking[1]
    places = value[2]
    if value[0] != "empty" or type(places) is not tuple or any(type(place) is not int for place in places):
        return False
    if list(places) != sorted(set(places)) or 1 not in places or min(places) < 0 or max(places) >= workflow[0]:
        return False
    return plain_algebra.is_siphon(workflow[1], places) and not any(marking[place] for place in places)


def is_paper(workflow, value):
    """Returns whether the value is a structure paper; all siphons are looked at, so the net must be small."""
    if type(value) is not tuple or not value or type(value[0]) is not str:
        return False
    places, steps = workflow
    counts_rank = len(plain_algebra.echelon(plain_algebra.effects(workflow))[1])
    clusters = len(plain_algebra.groups(workflow))
    siphons = [
        some for some in plain_algebra.sets_of(range(1, places))
        if some and plain_algebra.is_siphon(plain_algebra.closed(workflow), some)
    ]
    if value[0] == "sound" and len(value) == 3:
        return (
            plain_algebra.is_weighting(workflow, value[1]) and plain_algebra.are_counts(workflow, value[2])
            and min(value[1]) > 0 and min(value[2]) > 0 and counts_rank == clusters and not siphons
        )
    if value[0] == "rank" and len(value) == 3:
        numbers = plain_algebra.are_numbers(value[1:], 2)
        return numbers and value[1:] == (counts_rank, clusters) and counts_rank != clusters
    if len(value) != 2:
        return False
    if value[0] == "growth":
        return plain_algebra.are_growing(workflow, value[1])
    if value[0] == "rise":
        return plain_algebra.is_rising(workflow, value[1])
    if value[0] == "siphon":
        return type(value[1]) is tuple and all(type(p) is int for p in value[1]) and value[1] in siphons
    return False
