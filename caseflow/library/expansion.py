"""Expansions: the workflow of an entry with all uses written out.

The entries stand behind those that they use. A row is a step of an expansion: its
address, its inputs, its outputs, its chance and its cost.
"""

from caseflow.readings.given import chances_given, costs_given
from caseflow.readings.ratios import ONE

LETTERS = "abcdefghijklmnopqrstuvwxyz"


def expanded_sizes(entries):
    """Returns for each entry the numbers of the places and of the steps of its expansion, by names."""
    sizes = {}
    for name, workflow, _, _, uses in entries:
        places = workflow[0]
        steps = len(workflow[1])
        for _, used, times in uses:
            places = places + _places_of_use(sizes[used][0], times)
            # The step itself becomes the step to enter.
            steps = steps + 1 + times * sizes[used][1]
        sizes[name] = (places, steps)
    return sizes


def expansion_of(entries, name):
    """Returns the workflow, the chances, the costs and the addresses of the expansion of the entry."""
    expanded = {}
    for entry in entries:
        expanded[entry[0]] = _expanded(entry, expanded)
    places, rows = expanded[name]
    steps = [(_label(at), row[1], row[2]) for at, row in enumerate(rows)]
    chances = tuple([row[3] for row in rows])
    costs = tuple([row[4] for row in rows])
    return ((places, tuple(steps)), chances, costs, tuple([row[0] for row in rows]))


def _places_of_use(places, times):
    """Returns how many places come with so many copies of a workflow with these places."""
    return times + 1 + times * (places - 2)


def _expanded(entry, expanded):
    """Returns the number of places and the rows of the expansion, in the order of their addresses."""
    _, workflow, chances, costs, uses = entry
    fractions = chances_given(workflow, chances)
    prices = costs_given(workflow, costs)
    by_step = {use[0]: use for use in uses}
    places = workflow[0]
    rows = []
    for at, (step, inputs, outputs) in enumerate(workflow[1]):
        if step not in by_step:
            rows.append(((step,), inputs, outputs, fractions[at], prices[at]))
        else:
            _, used, times = by_step[step]
            rows.append(((step, 0), inputs, (places,), fractions[at], prices[at]))
            rows.extend(_rows_of_copies(step, times, expanded[used], places))
            rows.append(((step, times + 1), (places + times,), outputs, ONE, 0))
            places = places + _places_of_use(expanded[used][0], times)
    return places, sorted(rows)


def _rows_of_copies(step, times, used, joint):
    """Returns the rows of all copies of an expansion; the joints have the numbers from `joint` on."""
    places, rows = used
    inner = joint + times + 1
    found = []
    for copy in range(times):
        # The start and the end of the copy are joints, its other places come behind all joints.
        numbers = [joint + copy, joint + copy + 1] + list(range(inner, inner + places - 2))
        inner = inner + places - 2
        for address, inputs, outputs, chance, cost in rows:
            sides = [tuple(sorted([numbers[place] for place in side])) for side in (inputs, outputs)]
            found.append(((step, copy + 1) + address, sides[0], sides[1], chance, cost))
    return found


def _label(number):
    """Returns a name of two letters; the names ascend with the numbers."""
    return LETTERS[number // 26] + LETTERS[number % 26]
