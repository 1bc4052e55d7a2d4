"""What the document says of parts of workflows, written down once more."""

from itertools import combinations

from tests import plain


def places_of(steps):
    return {place for step in steps for place in step[1] + step[2]}


def net_between(steps, first, last):
    """Returns the net of the steps in which the places are numbered anew."""
    inner = sorted(places_of(steps) - {first, last})
    number = {first: 0, last: 1, **{place: at for at, place in enumerate(inner, 2)}}
    return (len(inner) + 2, tuple(
        (name, tuple(sorted(number[p] for p in ins)), tuple(sorted(number[p] for p in outs))) for name, ins, outs in steps
    ))


def is_part(workflow, first, last, names):
    """Returns whether the steps with these names are a part."""
    steps = [step for step in workflow[1] if step[0] in names]
    others = [step for step in workflow[1] if step[0] not in names]
    if not steps or any(first in step[2] or last in step[1] for step in steps):
        return False
    if (places_of(steps) - {first, last}) & places_of(others):
        return False
    return plain.defects(net_between(steps, first, last)) == ()


def parts(workflow, first, last):
    """Returns all parts between two places, each as an ascending tuple of names."""
    names = [step[0] for step in workflow[1]]
    return [
        some for many in range(1, len(names) + 1) for some in combinations(names, many)
        if is_part(workflow, first, last, some)
    ]


def collapsed(workflow, first, last, names, name):
    steps = [step for step in workflow[1] if step[0] not in names] + [(name, (first,), (last,))]
    return net_between(sorted(steps), 0, 1)
