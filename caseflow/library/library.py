"""Libraries, and the values of full cases of their entries."""

from caseflow.basics import ascends, is_integer_within, is_name
from caseflow.errors import InvalidLibrary, TooMany, UnknownName
from caseflow.library.expansion import expanded_sizes, expansion_of
from caseflow.library.values import cost_variances, greatest_costs, least_costs, mean_costs, mean_numbers
from caseflow.nets.nets import MAX_PLACES, MAX_STEPS, is_workflow
from caseflow.readings.given import are_chances, are_costs
from caseflow.readings.limits import graph_for_chances
from caseflow.sound.handling import graph_by_order
from caseflow.sound.structure import check_sound

MAX_ENTRIES = 12
MAX_TIMES = 10 ** 30


def is_library(value):
    """Returns whether the value is a library."""
    if not isinstance(value, tuple) or not 1 <= len(value) <= MAX_ENTRIES:
        return False
    if not all([_is_entry(entry) for entry in value]):
        return False
    names = [entry[0] for entry in value]
    if not ascends(names) or not all([use[1] in names for entry in value for use in entry[4]]):
        return False
    return len(_used_first(value)) == len(value)


def used_names(library, name):
    """Returns the names of the entries that the entry uses, directly or through others, ascending."""
    return tuple([entry[0] for entry in _entry_with_used(library, name) if entry[0] != name])


def full_cost(library, name):
    """Returns the mean cost of a full case."""
    entries = _entry_with_used(library, name)
    _check_for_chances(entries)
    return mean_costs(_used_first(entries))[name]


def full_variance(library, name):
    """Returns the variance of the cost of a full case."""
    entries = _entry_with_used(library, name)
    _check_for_chances(entries)
    return cost_variances(_used_first(entries))[name]


def full_counts(library, name):
    """Returns the mean numbers of occurrences in a full case, by pairs of an entry and a step."""
    entries = _entry_with_used(library, name)
    _check_for_chances(entries)
    return mean_numbers(_used_first(entries), name)


def full_least(library, name):
    """Returns the least cost of a full case."""
    entries = _entry_with_used(library, name)
    _check_for_costs(entries)
    return least_costs(_used_first(entries))[name]


def full_greatest(library, name):
    """Returns the greatest cost of a full case, or None if there is none."""
    entries = _entry_with_used(library, name)
    _check_for_costs(entries)
    return greatest_costs(_used_first(entries))[name]


def expand(library, name):
    """Returns the expansion of the entry: a workflow, its chances and costs, and the addresses of its steps."""
    entries = _used_first(_entry_with_used(library, name))
    places, steps = expanded_sizes(entries)[name]
    if places > MAX_PLACES:
        raise TooMany(MAX_PLACES)
    if steps > MAX_STEPS:
        raise TooMany(MAX_STEPS)
    return expansion_of(entries, name)


def _is_entry(value):
    if not isinstance(value, tuple) or len(value) != 5:
        return False
    name, workflow, chances, costs, uses = value
    if not is_name(name) or not is_workflow(workflow):
        return False
    if chances is not None and not are_chances(workflow, chances):
        return False
    if costs is not None and not are_costs(workflow, costs):
        return False
    return _are_uses(workflow, uses)


def _are_uses(workflow, value):
    """Returns whether the value is an ascending tuple of uses of distinct steps; what they use is not looked at."""
    if not isinstance(value, tuple):
        return False
    steps = [step[0] for step in workflow[1]]
    for use in value:
        if not isinstance(use, tuple) or len(use) != 3:
            return False
        if not isinstance(use[0], str) or use[0] not in steps or not is_integer_within(use[2], 1, MAX_TIMES):
            return False
    return ascends([use[0] for use in value])


def _used_first(entries):
    """Returns the entries, each behind those that it uses; those that use themselves are left out."""
    found = {}
    many = -1
    while len(found) != many:
        many = len(found)
        for entry in entries:
            if all([use[1] in found for use in entry[4]]):
                found[entry[0]] = entry
    return list(found.values())


def _entry_with_used(library, name):
    """Returns the entry and all that it uses, in ascending order of their names; raises the errors of both values."""
    if not is_library(library):
        raise InvalidLibrary("not a library")
    if name not in [entry[0] for entry in library]:
        raise UnknownName(name)
    known = [name]
    # Those that use others come first here, so all that are used are found in one pass.
    for entry in reversed(_used_first(library)):
        if entry[0] in known:
            known.extend([use[1] for use in entry[4]])
    return [entry for entry in library if entry[0] in known]


def _check_sound_entries(entries):
    for entry in entries:
        check_sound(entry[1])


def _check_for_chances(entries):
    """Raises NotSound, then for each entry TooMany(256), then TooMany(100)."""
    _check_sound_entries(entries)
    for entry in entries:
        graph_for_chances(entry[1])


def _check_for_costs(entries):
    """Raises NotSound, then TooMany(256)."""
    _check_sound_entries(entries)
    for entry in entries:
        graph_by_order(entry[1], None)
