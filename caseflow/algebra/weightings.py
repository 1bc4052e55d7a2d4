"""Weightings of the places and counts of the steps of a net."""

from caseflow.algebra.alternative import positive_or_rising
from caseflow.algebra.closed import effect_of_step, effects_at_places, effects_of_steps
from caseflow.algebra.rows import null_basis, pivot_rows, product_sum
from caseflow.basics import are_integers
from caseflow.nets.nets import check_net, find_step


def effect(net, name):
    """Returns the effect of the step with this name, for each place."""
    check_net(net)
    return effect_of_step(net[0], find_step(net, name))


def is_weighting(net, value):
    """Returns whether the value is a weighting."""
    check_net(net)
    return _are_zero(_sums(effects_of_steps(net), value))


def are_counts(net, value):
    """Returns whether the value is counts."""
    check_net(net)
    return _are_zero(_sums(effects_at_places(net), value))


def are_growing_counts(net, value):
    """Returns whether the value is growing counts."""
    check_net(net)
    return _are_rising(_sums(effects_at_places(net), value))


def are_rising_weights(net, value):
    """Returns whether the value is rising weights."""
    check_net(net)
    return _are_rising(_sums(effects_of_steps(net), value))


def weighting_basis(net):
    """Returns the basis of the weightings."""
    check_net(net)
    return null_basis(effects_of_steps(net), net[0])


def counts_basis(net):
    """Returns the basis of the counts."""
    check_net(net)
    return null_basis(effects_at_places(net), len(net[1]) + 1)


def effect_rank(net):
    """Returns the rank of the effects of all steps of the closed net."""
    check_net(net)
    return rank_of_effects(net)


def positive_weighting(net):
    """Returns a weighting with all entries at least 1, or None."""
    check_net(net)
    return positive_or_rising(effects_of_steps(net))[0]


def growing_counts(net):
    """Returns growing counts, or None."""
    check_net(net)
    return positive_or_rising(effects_of_steps(net))[1]


def positive_counts(net):
    """Returns counts with all entries at least 1, or None."""
    check_net(net)
    return positive_or_rising(effects_at_places(net))[0]


def rising_weights(net):
    """Returns rising weights, or None."""
    check_net(net)
    return positive_or_rising(effects_at_places(net))[1]


def rank_of_effects(net):
    """Returns the rank of the effects for what is known to be a net."""
    return len(pivot_rows(effects_of_steps(net), list(range(net[0]))))


def _sums(rows, value):
    """Returns the product sum of each row with the value, or None if it does not fit."""
    if not are_integers(value) or len(value) != len(rows[0]):
        return None
    return [product_sum(row, value) for row in rows]


def _are_zero(sums):
    return sums is not None and all([total == 0 for total in sums])


def _are_rising(sums):
    return sums is not None and min(sums) >= 0 and max(sums) > 0
