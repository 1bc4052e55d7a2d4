"""How markings of one workflow are moved to another one by places."""

from caseflow.algebra.occurring import Witnesses
from caseflow.basics import is_integer_within
from caseflow.errors import InvalidPlaces


def are_targets(old, new, value):
    """Returns whether the value gives for each place of the old workflow a place of the new one, or None."""
    if not isinstance(value, tuple) or len(value) != old[0]:
        return False
    return all([place is None or is_integer_within(place, 0, new[0] - 1) for place in value])


def targets_given(old, new, places):
    """Returns the places, those for None too, or raises InvalidPlaces."""
    if places is None:
        return tuple([place if place < new[0] else None for place in range(old[0])])
    if not are_targets(old, new, places):
        raise InvalidPlaces("not a place of the new workflow, or None, for each place of the old one")
    return places


def moved_tokens(new, marking, targets):
    """Returns the tokens of the new places, or None if the marking cannot be moved."""
    tokens = [0] * new[0]
    for place, many in zip(targets, marking):
        if many > 0 and place is None:
            return None
        if many > 0:
            tokens[place] += many
    return tuple(tokens)


class Mover:
    """Moves markings that occur in a workflow to a new one, where the result must occur, too."""

    def __init__(self, new, targets):
        self._new = new
        self._targets = targets
        self._witnesses = Witnesses(new)

    def movable_to(self, marking):
        """Returns the marking to which it is moved, or None if it is not movable."""
        moved = moved_tokens(self._new, marking, self._targets)
        if moved is None or not self._witnesses.are_missing(moved):
            return None
        return moved
