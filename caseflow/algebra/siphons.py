"""Siphons and traps of a net and of its closed net."""

from caseflow.algebra.closed import closed_steps
from caseflow.errors import InvalidPlaces
from caseflow.nets.nets import are_places, check_net, have_common
from caseflow.nets.runs import check_marking


def is_siphon(net, value, *, closed=False):
    """Returns whether the value is a siphon."""
    check_net(net)
    return are_places(net[0], value) and siphon_within(_steps(net, closed), value) == value


def is_trap(net, value, *, closed=False):
    """Returns whether the value is a trap."""
    check_net(net)
    return are_places(net[0], value) and trap_within(_steps(net, closed), value) == value


def largest_siphon(net, places, *, closed=False):
    """Returns the largest siphon within these places."""
    check_net(net)
    _check_places(net, places)
    return siphon_within(_steps(net, closed), places)


def largest_trap(net, places, *, closed=False):
    """Returns the largest trap within these places."""
    check_net(net)
    _check_places(net, places)
    return trap_within(_steps(net, closed), places)


def empty_siphon(net, marking, *, closed=False):
    """Returns the largest siphon within the places without a token."""
    check_net(net)
    check_marking(net, marking)
    return siphon_within(_steps(net, closed), _without_token(marking))


def empty_trap(net, marking, *, closed=False):
    """Returns the largest trap within the places without a token."""
    check_net(net)
    check_marking(net, marking)
    return trap_within(_steps(net, closed), _without_token(marking))


def siphon_within(steps, places):
    """Returns the largest siphon of these steps within an ascending tuple of places."""
    tried = None
    left = places
    while left != tried:
        tried = left
        left = tuple([place for place in tried if not _is_fed(steps, tried, place)])
    return left


def trap_within(steps, places):
    """Returns the largest trap of these steps within an ascending tuple of places."""
    # A trap is a siphon of the steps that go back.
    return siphon_within([(name, outputs, inputs) for name, inputs, outputs in steps], places)


def _is_fed(steps, places, place):
    """Returns whether a step that takes no token from the places puts one on this place."""
    return any([place in outputs and not have_common(inputs, places) for _, inputs, outputs in steps])


def _steps(net, closed):
    return closed_steps(net) if closed else net[1]


def _check_places(net, places):
    if not are_places(net[0], places):
        raise InvalidPlaces("not an ascending tuple of places of the net")


def _without_token(marking):
    return tuple([place for place, tokens in enumerate(marking) if tokens == 0])
