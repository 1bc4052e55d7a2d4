"""What the document says of libraries, written down once more."""

import re
from fractions import Fraction
from math import gcd

from tests import plain, plain_readings


def is_fraction(value):
    if type(value) is not tuple or len(value) != 2 or any(type(part) is not int for part in value):
        return False
    return value[1] > 0 and gcd(*value) == 1


def are_chances(workflow, value):
    if type(value) is not tuple or len(value) != len(workflow[1]) or not all(is_fraction(part) for part in value):
        return False
    if any(not 0 < part[0] <= 1000000 or part[1] > 1000000 for part in value):
        return False
    sums = {}
    for step, part in zip(workflow[1], value):
        sums[step[1]] = sums.get(step[1], 0) + Fraction(*part)
    return all(total == 1 for total in sums.values())


def are_costs(workflow, value):
    if type(value) is not tuple or len(value) != len(workflow[1]):
        return False
    return all(type(part) is int and 0 <= part <= 1000000000 for part in value)


def is_library(value):
    if type(value) is not tuple or not 0 < len(value) < 13:
        return False
    for entry in value:
        if type(entry) is not tuple or len(entry) != 5 or type(entry[4]) is not tuple:
            return False
        name, workflow, chances, costs, uses = entry
        if type(name) is not str or re.fullmatch("[a-z]{1,8}", name) is None:
            return False
        if not plain.is_net(workflow) or plain.defects(workflow):
            return False
        if not (chances is None or are_chances(workflow, chances)) or not (costs is None or are_costs(workflow, costs)):
            return False
        for use in uses:
            if type(use) is not tuple or len(use) != 3 or type(use[2]) is not int or not 1 <= use[2] <= 10 ** 30:
                return False
            if type(use[0]) is not str or type(use[1]) is not str or use[0] not in {step[0] for step in workflow[1]}:
                return False
        if [use[0] for use in uses] != sorted({use[0] for use in uses}):
            return False
    names = [entry[0] for entry in value]
    if names != sorted(set(names)) or any(use[1] not in names for entry in value for use in entry[4]):
        return False
    return all(name not in used(value, name) for name in names)


def used(library, name):
    """Returns the names of all entries that the entry uses, directly or through others, ascending."""
    direct = {entry[0]: {use[1] for use in entry[4]} for entry in library}
    found = set(direct[name])
    while True:
        more = found | {other for middle in found for other in direct[middle]}
        if more == found:
            return tuple(sorted(found))
        found = more


def entry_of(library, name):
    return [entry for entry in library if entry[0] == name][0]


def expansion(library, name):
    """Returns all places, by what they are, in the order of their numbers, and a row for each step."""
    _, workflow, chances, costs, uses = entry_of(library, name)
    fractions = plain_readings.chances_of(workflow, chances)
    prices = plain_readings.costs_of(workflow, costs)
    places = [("own", place) for place in range(workflow[0])]
    rows = []
    for step, chance, cost in zip(workflow[1], fractions, prices):
        t = step[0]
        ins, outs = [[("own", place) for place in side] for side in step[1:]]
        use = [use for use in uses if use[0] == t]
        if not use:
            rows.append(((t,), ins, outs, chance, cost))
            continue
        _, other, times = use[0]
        inner, steps = expansion(library, other)
        places += [(t, "joint", i) for i in range(1, times + 2)]
        rows.append(((t, 0), ins, [(t, "joint", 1)], chance, cost))
        for i in range(1, times + 1):
            numbers = {inner[0]: (t, "joint", i), inner[1]: (t, "joint", i + 1)}
            numbers.update({place: (t, i, place) for place in inner[2:]})
            places += [(t, i, place) for place in inner[2:]]
            for address, left, right, part, price in steps:
                sides = [[numbers[place] for place in side] for side in (left, right)]
                rows.append(((t, i) + address, sides[0], sides[1], part, price))
        rows.append(((t, times + 1), [(t, "joint", times + 1)], outs, Fraction(1), 0))
    return places, rows


def expand(library, name):
    """Returns what expand must return."""
    places, rows = expansion(library, name)
    number = {place: at for at, place in enumerate(places)}
    rows = sorted(rows, key=lambda row: row[0])
    names = [one + other for one in "abcdefghijklmnopqrstuvwxyz" for other in "abcdefghijklmnopqrstuvwxyz"]
    steps = tuple(
        (label, tuple(sorted(number[place] for place in row[1])), tuple(sorted(number[place] for place in row[2])))
        for label, row in zip(names, rows)
    )
    chances = tuple(plain_readings.as_pair(row[3]) for row in rows)
    return (len(places), steps), chances, tuple(row[4] for row in rows), tuple(row[0] for row in rows)


def sizes(library, name):
    """Returns the numbers of places and steps of the expansion, which is not written out."""
    _, workflow, _, _, uses = entry_of(library, name)
    places, steps = workflow[0], len(workflow[1]) - len(uses)
    for _, other, times in uses:
        inner = sizes(library, other)
        places += times + 1 + times * (inner[0] - 2)
        steps += 2 + times * inner[1]
    return places, steps


def origin(library, name, address):
    """Returns the entry and the step to which an address belongs, or None for a step to leave.

    A step to enter stands for the step with the use.
    """
    uses = {use[0]: use for use in entry_of(library, name)[4]}
    if len(address) == 1:
        return (name, address[0])
    if len(address) == 2:
        return (name, address[0]) if address[1] == 0 else None
    return origin(library, uses[address[0]][1], address[2:])
