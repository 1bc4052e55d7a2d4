"""What the document says of occurring markings, written down once more."""

from tests import plain, plain_algebra


def weighted(weighting, marking):
    return sum(weight * tokens for weight, tokens in zip(weighting, marking))


def is_paper(workflow, marking, value):
    """Returns whether the value is an occurrence paper for the marking."""
    if type(value) is not tuple or len(value) != 2 or type(value[0]) is not str:
        return False
    kind, content = value
    if kind == "run":
        passed = plain.follow(workflow, content, plain.first(workflow))
        return type(passed) is list and passed[-1] == marking
    if kind == "weighting":
        if not plain_algebra.is_weighting(workflow, content):
            return False
        return weighted(content, marking) != weighted(content, plain.first(workflow))
    if kind != "trap" or type(content) is not tuple or content == ():
        return False
    if any(type(place) is not int or not 0 <= place < workflow[0] for place in content):
        return False
    if list(content) != sorted(set(content)) or any(marking[place] for place in content):
        return False
    return plain_algebra.is_trap(plain_algebra.closed(workflow), content)


def distances(workflow):
    """Returns for each reachable marking the number of steps of the shortest run to it."""
    found = {plain.first(workflow): 0}
    level = [plain.first(workflow)]
    many = 0
    while level:
        many += 1
        after = {plain.done(marking, step) for marking in level for step in plain.enabled(workflow, marking)}
        level = sorted(after - set(found))
        found.update({marking: many for marking in level})
    return found
