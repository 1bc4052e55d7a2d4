"""What the document says of logs, written down once more."""

import re
from collections import deque

from tests import plain, plain_editions


def is_log(value):
    if type(value) is not tuple or len(value) > 60:
        return False
    return all(type(name) is str and re.fullmatch("[a-z]{1,8}", name) for name in value)


def beginning(workflow, log):
    return max(many for many in range(len(log) + 1) if type(plain.follow(workflow, log[:many], plain.first(workflow))) is list)


def distances(workflow, marking):
    """Returns for each marking that is reached from this one the number of steps of the shortest run to it."""
    found = {marking: 0}
    waiting = deque([marking])
    while waiting:
        key = waiting.popleft()
        for step in plain.enabled(workflow, key):
            after = plain.done(key, step)
            if after not in found:
                found[after] = found[key] + 1
                waiting.append(after)
    return found


def moves(workflow, log, pair):
    """Returns triples of the corrections of a move, its kind and name, and the pair to which it leads."""
    marking, position = pair
    found = [(1, ("run", step[0]), (plain.done(marking, step), position)) for step in plain.enabled(workflow, marking)]
    if position < len(log):
        found.append((1, ("log", log[position]), (marking, position + 1)))
        after = plain_editions.step_of(workflow, marking, log[position])
        if after is not None:
            found.append((0, ("both", log[position]), (after, position + 1)))
    return found


def corrections(workflow, log):
    """Returns the least number of corrections that lead to each pair."""
    found = {(plain.first(workflow), 0): 0}
    waiting = deque(found)
    while waiting:
        pair = waiting.popleft()
        for many, _, after in moves(workflow, log, pair):
            if found[pair] + many < found.get(after, found[pair] + many + 1):
                found[after] = found[pair] + many
                waiting.append(after)
    return found


def is_alignment(workflow, log, value):
    if type(value) is not tuple:
        return False
    for pair in value:
        if type(pair) is not tuple or len(pair) != 2 or pair[0] not in ("both", "log", "run") or type(pair[1]) is not str:
            return False
    run = tuple(name for kind, name in value if kind in ("both", "run"))
    passed = plain.follow(workflow, run, plain.first(workflow))
    if type(passed) is not list or passed[-1] != plain.last(workflow):
        return False
    return tuple(name for kind, name in value if kind in ("both", "log")) == log


def number_of_corrections(value):
    return len([kind for kind, _ in value if kind != "both"])


def is_bound(workflow, log, value):
    if type(value) is not dict:
        return False
    for key in value:
        if type(key) is not tuple or len(key) != 2 or not plain.is_marking(workflow, key[0]):
            return False
        if type(key[1]) is not int or not 0 <= key[1] <= len(log):
            return False
        if type(value[key]) is not int or value[key] < 1:
            return False
    if (plain.last(workflow), len(log)) in value:
        return False
    for key in value:
        for many, _, after in moves(workflow, log, key):
            if value[key] > many + value.get(after, 0):
                return False
    return True
