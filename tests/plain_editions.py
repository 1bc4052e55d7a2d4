"""What the document says of editions, written down once more."""

from tests import plain, plain_occurring


def step_of(workflow, marking, name):
    """Returns the marking behind the step with this name, or None if it is not enabled."""
    found = [step for step in plain.enabled(workflow, marking) if step[0] == name]
    return plain.done(marking, found[0]) if found else None


def search(old, new):
    """Returns the length of the shortest gap, or None, and the pairs to which shorter runs of both lead."""
    level = {(plain.first(old), plain.first(new))}
    known = set()
    length = 0
    while level:
        if any(a == plain.last(old) and b != plain.last(new) for a, b in level):
            return length, known
        known |= level
        after = set()
        for a, b in level:
            for step in plain.enabled(old, a):
                after.add((plain.done(a, step), step_of(new, b, step[0])))
        length += 1
        if any(b is None for _, b in after):
            return length, known
        level = after - known
    return None, known


def is_gap(old, new, run):
    passed = plain.follow(old, run, plain.first(old))
    others = plain.follow(new, run, plain.first(new))
    if type(passed) is not list:
        return False
    if type(others) is not list:
        return True
    return passed[-1] == plain.last(old) and others[-1] != plain.last(new)


def is_cover(old, new, value):
    if type(value) is not tuple:
        return False
    for pair in value:
        if type(pair) is not tuple or len(pair) != 2:
            return False
        if not plain.is_marking(old, pair[0]) or not plain.is_marking(new, pair[1]):
            return False
    if list(value) != sorted(set(value)) or (plain.first(old), plain.first(new)) not in value:
        return False
    for a, b in value:
        if a == plain.last(old) and b != plain.last(new):
            return False
        for step in plain.enabled(old, a):
            if (plain.done(a, step), step_of(new, b, step[0])) not in value:
                return False
    return True


def are_places(old, new, value):
    if type(value) is not tuple or len(value) != old[0]:
        return False
    return all(place is None or (type(place) is int and 0 <= place < new[0]) for place in value)


def targets(old, new, places):
    return [place if place < new[0] else None for place in range(old[0])] if places is None else list(places)


def moved(old, new, marking, places):
    """Returns where the marking is moved, or None; there can be too many tokens."""
    found = [0] * new[0]
    for place, tokens in zip(targets(old, new, places), marking):
        if tokens:
            if place is None:
                return None
            found[place] += tokens
    return tuple(found)


def movable(old, new, places):
    """Returns all occurring markings of the old workflow, and those of them that are movable."""
    there = plain_occurring.distances(new)
    markings = sorted(plain_occurring.distances(old))
    return markings, [marking for marking in markings if moved(old, new, marking, places) in there]
