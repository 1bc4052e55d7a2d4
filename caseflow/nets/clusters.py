"""The clusters of a workflow, and the steps around a place."""

from caseflow.basics import is_integer_within
from caseflow.errors import InvalidNumber
from caseflow.nets.nets import check_net, check_workflow, find_step


def clusters(workflow):
    """Returns the clusters, ascending."""
    check_workflow(workflow)
    return list_clusters(workflow)


def cluster_of(workflow, name):
    """Returns the number of the cluster that contains the step."""
    check_workflow(workflow)
    inputs = find_step(workflow, name)[1]
    return [cluster[0] for cluster in list_clusters(workflow)].index(inputs)


def steps_into(net, place):
    """Returns the names of the steps with this output, ascending."""
    check_net(net)
    check_place(net, place)
    return tuple([name for name, _, outputs in net[1] if place in outputs])


def steps_out_of(net, place):
    """Returns the names of the steps with this input, ascending."""
    check_net(net)
    check_place(net, place)
    return tuple([name for name, inputs, _ in net[1] if place in inputs])


def list_clusters(workflow):
    """Returns the clusters of what is known to be a workflow."""
    names = {}
    for name, inputs, _ in workflow[1]:
        names.setdefault(inputs, []).append(name)
    return tuple([(inputs, tuple(names[inputs])) for inputs in sorted(names)])


def check_place(net, place):
    """Raises InvalidNumber if the value is not a place; `net` is a net."""
    if not is_integer_within(place, 0, net[0] - 1):
        raise InvalidNumber(place)
