"""Parts of workflows: steps between two places that are a workflow themselves."""

from caseflow.basics import is_name
from caseflow.errors import InvalidNumber, InvalidTerm
from caseflow.nets.clusters import check_place
from caseflow.nets.nets import check_workflow, have_common, is_workflow


def is_part(workflow, first, last, value):
    """Returns whether the value is a part between the two places, as an ascending tuple of names."""
    _check_ends(workflow, first, last)
    return _is_part_between(workflow, first, last, value)


def largest_part(workflow, first, last):
    """Returns the names of the steps of the largest part between the two places, or None if there is none."""
    _check_ends(workflow, first, last)
    found = []
    for group in _groups_between(workflow, first, last):
        # Groups have only the two places in common, so all parts are put together from those that are parts.
        if _forms_workflow(first, last, group):
            found.extend(group)
    return tuple(sorted([step[0] for step in found])) if found != [] else None


def part_workflow(workflow, first, last, names):
    """Returns the workflow of the part; `first` becomes the start and `last` the end."""
    _check_ends(workflow, first, last)
    _check_part(workflow, first, last, names)
    return _workflow_between(first, last, [step for step in workflow[1] if step[0] in names])


def collapse(workflow, first, last, names, name):
    """Returns the workflow in which one step stands for the part."""
    _check_ends(workflow, first, last)
    _check_part(workflow, first, last, names)
    rest = [step for step in workflow[1] if step[0] not in names]
    if not is_name(name) or name in [step[0] for step in rest]:
        raise InvalidTerm("the name is none, or a step outside the part has it")
    return _workflow_between(0, 1, sorted(rest + [(name, (first,), (last,))]))


def _check_ends(workflow, first, last):
    check_workflow(workflow)
    check_place(workflow, first)
    check_place(workflow, last)
    if first == last:
        raise InvalidNumber(last)


def _check_part(workflow, first, last, names):
    if not _is_part_between(workflow, first, last, names):
        raise InvalidTerm("not a part between the two places")


def _is_part_between(workflow, first, last, value):
    if not isinstance(value, tuple) or value == ():
        return False
    steps = [step for step in workflow[1] if step[0] in value]
    if tuple([step[0] for step in steps]) != value:
        return False
    inner = _places_of(steps, (first, last))
    others = [step for step in workflow[1] if step not in steps]
    if any([have_common(inner, step[1] + step[2]) for step in others]):
        return False
    return _forms_workflow(first, last, steps)


def _groups_between(workflow, first, last):
    """Returns the steps in groups; steps with a place in common, other than the two, are in one group."""
    groups = []
    for step in workflow[1]:
        places = _places_of([step], (first, last))
        joined = [group for group in groups if have_common(places, _places_of(group, (first, last)))]
        groups = [group for group in groups if group not in joined]
        groups.append([step] + [other for group in joined for other in group])
    return groups


def _places_of(steps, ends):
    """Returns the places of the steps, ascending, but for these ends."""
    places = sorted(set([place for step in steps for place in step[1] + step[2]]))
    return [place for place in places if place not in ends]


def _forms_workflow(first, last, steps):
    """Returns whether these steps are a workflow from `first` to `last`."""
    # It has a defect if the first place is an output or the last one an input.
    return is_workflow(_workflow_between(first, last, sorted(steps)))


def _workflow_between(first, last, steps):
    """Returns the net of these steps; the places get new numbers, the first and the last one 0 and 1."""
    inner = _places_of(steps, (first, last))
    numbers = {place: at + 2 for at, place in enumerate(inner)}
    numbers[first] = 0
    numbers[last] = 1
    found = []
    for name, inputs, outputs in steps:
        sides = [tuple(sorted([numbers[place] for place in side])) for side in (inputs, outputs)]
        found.append((name, sides[0], sides[1]))
    return (2 + len(inner), tuple(found))
