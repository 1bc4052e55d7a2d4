"""Nets, workflows, and the defects of nets that are no workflows."""

from caseflow.basics import are_integers, ascends, is_integer_within, is_name
from caseflow.errors import InvalidNet, InvalidNumber, InvalidWorkflow, UnknownStep

MAX_PLACES = 30
MAX_STEPS = 40


def is_net(value):
    """Returns whether the value is a net."""
    if not isinstance(value, tuple) or len(value) != 2:
        return False
    places, steps = value
    if not is_integer_within(places, 2, MAX_PLACES):
        return False
    if not isinstance(steps, tuple) or not 1 <= len(steps) <= MAX_STEPS:
        return False
    if not all([_is_step(places, step) for step in steps]):
        return False
    return ascends([step[0] for step in steps])


def is_workflow(value):
    """Returns whether the value is a workflow."""
    return is_net(value) and not _all_defects(value)


def make_net(places, *steps):
    """Returns the net with these places and these steps, put in order."""
    if not is_integer_within(places, 2, MAX_PLACES):
        raise InvalidNumber(places)
    if not all([_can_be_put_in_order(step) for step in steps]):
        raise InvalidNet("a step is not a name with two tuples of places")
    net = (places, tuple(sorted([_put_in_order(step) for step in steps])))
    check_net(net)
    return net


def net_defects(net):
    """Returns all defects of the net, ascending; a workflow has none."""
    check_net(net)
    return tuple(sorted(_all_defects(net)))


def step_names(net):
    """Returns the names of the steps, ascending."""
    check_net(net)
    return tuple([step[0] for step in net[1]])


def inputs_of(net, name):
    """Returns the inputs of the step with this name."""
    check_net(net)
    return find_step(net, name)[1]


def outputs_of(net, name):
    """Returns the outputs of the step with this name."""
    check_net(net)
    return find_step(net, name)[2]


def check_net(net):
    """Raises InvalidNet if the value is not a net."""
    if not is_net(net):
        raise InvalidNet("not a net")


def check_workflow(workflow):
    """Raises InvalidWorkflow if the value is not a workflow."""
    if not is_workflow(workflow):
        raise InvalidWorkflow("not a workflow")


def find_step(net, name):
    """Returns the step with this name, or raises UnknownStep; `net` is a net."""
    for step in net[1]:
        if step[0] == name:
            return step
    raise UnknownStep(name)


def are_places(places, value):
    """Returns whether the value is an ascending tuple of places, perhaps ()."""
    if not isinstance(value, tuple):
        return False
    if not all([is_integer_within(place, 0, places - 1) for place in value]):
        return False
    return ascends(value)


def _is_step(places, value):
    if not isinstance(value, tuple) or len(value) != 3:
        return False
    name, inputs, outputs = value
    if not is_name(name) or inputs == () or outputs == ():
        return False
    return are_places(places, inputs) and are_places(places, outputs)


def _can_be_put_in_order(value):
    if not isinstance(value, tuple) or len(value) != 3:
        return False
    name, inputs, outputs = value
    return is_name(name) and are_integers(inputs) and are_integers(outputs)


def _put_in_order(step):
    name, inputs, outputs = step
    return (name, tuple(sorted(set(inputs))), tuple(sorted(set(outputs))))


def _all_defects(net):
    return _end_defects(net) + _choice_defects(net) + _path_defects(net)


def _end_defects(net):
    starts = [("start", name) for name, _, outputs in net[1] if 0 in outputs]
    ends = [("end", name) for name, inputs, _ in net[1] if 1 in inputs]
    return starts + ends


def _choice_defects(net):
    steps = net[1]
    defects = []
    for at, (first, inputs, _) in enumerate(steps):
        for second, others, _ in steps[at + 1:]:
            if inputs != others and have_common(inputs, others):
                defects.append(("choice", first, second))
    return defects


def have_common(places, others):
    """Returns whether a place stands in both tuples."""
    return any([place in others for place in places])


def _path_defects(net):
    places, steps = net
    ahead = _reached(steps, 0)
    behind = _reached([(name, outputs, inputs) for name, inputs, outputs in steps], 1)
    missed = [("place", place) for place in range(places) if place not in ahead or place not in behind]
    for name, inputs, outputs in steps:
        if not have_common(inputs, ahead) or not have_common(outputs, behind):
            missed.append(("step", name))
    return missed


def _reached(steps, begin):
    """Returns a dict whose keys are the places to which paths lead."""
    reached = {begin: True}
    waiting = [begin]
    while waiting:
        place = waiting.pop()
        for _, inputs, outputs in steps:
            if place in inputs:
                waiting.extend([output for output in outputs if output not in reached])
                reached.update({output: True for output in outputs})
    return reached
