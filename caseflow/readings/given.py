"""Orders, chances and costs of a workflow as they are passed, and what None stands for."""

from caseflow.basics import is_fraction, is_integer_within
from caseflow.errors import InvalidChances, InvalidCosts, InvalidOrder
from caseflow.nets.clusters import list_clusters
from caseflow.readings.ratios import ONE, ratio, sum_of

MAX_PART = 10 ** 6
MAX_STEP_COST = 10 ** 9


def check_order(workflow, order):
    """Raises InvalidOrder if the value is neither None nor an order."""
    if order is not None and not is_order_of(workflow, order):
        raise InvalidOrder("not an order of the clusters")


def is_order_of(workflow, value):
    """Returns whether the value has the number of each cluster exactly once."""
    many = len(list_clusters(workflow))
    if not isinstance(value, tuple) or len(value) != many:
        return False
    if not all([is_integer_within(number, 0, many - 1) for number in value]):
        return False
    return sorted(value) == list(range(many))


def chances_given(workflow, chances):
    """Returns the chances, those for None too, or raises InvalidChances."""
    if chances is None:
        return _equal_chances(workflow)
    if not are_chances(workflow, chances):
        raise InvalidChances("not chances of the workflow")
    return chances


def are_chances(workflow, value):
    """Returns whether the value has a fraction for each step, with the sum 1 in each cluster."""
    if not isinstance(value, tuple) or len(value) != len(workflow[1]):
        return False
    if not all([_is_chance(part) for part in value]):
        return False
    for inputs, _ in list_clusters(workflow):
        if sum_of([part for part, step in zip(value, workflow[1]) if step[1] == inputs]) != ONE:
            return False
    return True


def costs_given(workflow, costs):
    """Returns the costs, those for None too, or raises InvalidCosts."""
    if costs is None:
        return tuple([1 for _ in workflow[1]])
    if not are_costs(workflow, costs):
        raise InvalidCosts("not costs of the workflow")
    return costs


def are_costs(workflow, value):
    """Returns whether the value has an integer that can be a cost for each step."""
    if not isinstance(value, tuple) or len(value) != len(workflow[1]):
        return False
    return all([is_cost(part) for part in value])


def is_cost(value):
    """Returns whether the value is an integer that can be the cost of a step."""
    return is_integer_within(value, 0, MAX_STEP_COST)


def _is_chance(value):
    if not is_fraction(value):
        return False
    return 1 <= value[0] <= MAX_PART and value[1] <= MAX_PART


def _equal_chances(workflow):
    sides = [step[1] for step in workflow[1]]
    return tuple([ratio(1, sides.count(side)) for side in sides])
