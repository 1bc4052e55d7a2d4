"""What the document says of nets and runs, written down once more as plainly as possible."""

import re
from itertools import combinations


def is_net(value):
    if type(value) is not tuple or len(value) != 2:
        return False
    places, steps = value
    if type(places) is not int or places < 2 or places > 30:
        return False
    if type(steps) is not tuple or len(steps) < 1 or len(steps) > 40:
        return False
    for step in steps:
        if type(step) is not tuple or len(step) != 3:
            return False
        if type(step[0]) is not str or re.fullmatch("[a-z]{1,8}", step[0]) is None:
            return False
        for side in step[1:]:
            if type(side) is not tuple or side == ():
                return False
            if any(type(place) is not int or place < 0 or place >= places for place in side):
                return False
            if list(side) != sorted(set(side)):
                return False
    names = [step[0] for step in steps]
    return names == sorted(set(names))


def defects(net):
    places, steps = net
    nodes = list(range(places)) + [step[0] for step in steps]
    arcs = set()
    for name, inputs, outputs in steps:
        arcs |= {(place, name) for place in inputs} | {(name, place) for place in outputs}
    leads = {(a, b): a == b or (a, b) in arcs for a in nodes for b in nodes}
    for middle in nodes:
        for a in nodes:
            if leads[a, middle]:
                for b in nodes:
                    leads[a, b] = leads[a, b] or leads[middle, b]
    found = []
    for node in nodes:
        if not (leads[0, node] and leads[node, 1]):
            found.append(("place" if isinstance(node, int) else "step", node))
    for name, inputs, outputs in steps:
        found += [("start", name)] * (0 in outputs) + [("end", name)] * (1 in inputs)
    for one, other in combinations(steps, 2):
        if set(one[1]) & set(other[1]) and one[1] != other[1]:
            found.append(("choice",) + tuple(sorted([one[0], other[0]])))
    return tuple(sorted(found))


def is_workflow(value):
    return is_net(value) and defects(value) == ()


def is_marking(net, value):
    if type(value) is not tuple or len(value) != net[0]:
        return False
    return all(type(tokens) is int and 0 <= tokens <= 1000000000 for tokens in value)


def first(net):
    return (1,) + (0,) * (net[0] - 1)


def last(net):
    return (0, 1) + (0,) * (net[0] - 2)


def enabled(net, marking):
    return [step for step in net[1] if min(marking[place] for place in step[1]) > 0]


def done(marking, step):
    return tuple(
        tokens - (place in step[1]) + (place in step[2]) for place, tokens in enumerate(marking)
    )


def follow(net, value, marking):
    """Returns the markings of a run, or the position at which it is none."""
    if type(value) is not tuple:
        return 0
    found = [marking]
    for at, name in enumerate(value):
        steps = [step for step in enabled(net, found[-1]) if step[0] == name]
        if not steps or max(done(found[-1], steps[0])) > 1000000000:
            return at
        found.append(done(found[-1], steps[0]))
    return found


def runs(net, length):
    found = [((), first(net))]
    for _ in range(length):
        found = [(run + (step[0],), done(m, step)) for run, m in found for step in enabled(net, m)]
    return sorted(run for run, _ in found)


def reachable(net, most):
    """Returns all reachable markings, or None if there are more than `most`."""
    found = [first(net)]
    for marking in found:
        for step in enabled(net, marking):
            after = done(marking, step)
            if after not in found:
                found.append(after)
        if len(found) > most:
            return None
    return tuple(sorted(found))
