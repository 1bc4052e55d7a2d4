"""Whether a new edition of a workflow covers the old one, and where markings are moved."""

from caseflow.basics import ascends
from caseflow.editions.moving import Mover, moved_tokens, targets_given
from caseflow.errors import InvalidMarking
from caseflow.nets.moves import marking_behind
from caseflow.nets.runs import check_marking, fits_net, list_enabled, one_token, reachable_markings
from caseflow.nets.searches import search_levels
from caseflow.sound.structure import check_sound


def edition_gap(old, new):
    """Returns a shortest gap, or None if the new workflow covers the old one."""
    _check_two(old, new)
    return _search_gap(old, new)[0]


def cover(old, new):
    """Returns the cover with the pairs to which runs of both lead, or None if there is none."""
    _check_two(old, new)
    gap, pairs = _search_gap(old, new)
    return tuple(sorted(pairs)) if gap is None else None


def is_cover(old, new, value):
    """Returns whether the value is a cover."""
    _check_two(old, new)
    if not isinstance(value, tuple) or not all([_is_pair(old, new, pair) for pair in value]):
        return False
    if not ascends(value):
        return False
    known = {pair: True for pair in value}
    if (one_token(old, 0), one_token(new, 0)) not in known:
        return False
    return all([_stays_within(old, new, known, pair) for pair in value])


def moved_marking(old, new, marking, *, places=None):
    """Returns the marking to which the marking is moved, or None if it cannot be moved."""
    _check_two(old, new)
    check_marking(old, marking)
    targets = targets_given(old, new, places)
    moved = moved_tokens(new, marking, targets)
    if moved is not None and not fits_net(new, moved):
        raise InvalidMarking("too many tokens would be on a place")
    return moved


def first_unmovable(old, new, *, places=None):
    """Returns the smallest marking that occurs in the old workflow and is not movable, or None."""
    _check_two(old, new)
    mover = Mover(new, targets_given(old, new, places))
    for marking in reachable_markings(old):
        if mover.movable_to(marking) is None:
            return marking
    return None


def _check_two(old, new):
    check_sound(old)
    check_sound(new)


def _search_gap(old, new):
    """Returns a shortest gap, or None, and the pairs of markings to which runs of both lead.

    What is done in the old workflow alone leads to None, which is an end.
    """
    last = (one_token(old, 1), one_token(new, 1))

    def moves_at(pair):
        return _moves_of_both(old, new, pair)

    def is_end(pair):
        return pair is None or (pair[0] == last[0] and pair[1] != last[1])

    return search_levels((one_token(old, 0), one_token(new, 0)), moves_at, is_end)


def _moves_of_both(old, new, pair):
    """Returns for each step that is enabled in the old workflow its name and the pair behind it."""
    steps = {step[0]: step for step in list_enabled(new, pair[1])}
    moves = []
    for step in list_enabled(old, pair[0]):
        after = None
        if step[0] in steps:
            after = (marking_behind(pair[0], step), marking_behind(pair[1], steps[step[0]]))
        moves.append((step[0], after))
    return moves


def _is_pair(old, new, value):
    if not isinstance(value, tuple) or len(value) != 2:
        return False
    return fits_net(old, value[0]) and fits_net(new, value[1])


def _stays_within(old, new, known, pair):
    """Returns whether all that can be done at the pair leads to known pairs, and it ends in both if in the old one."""
    if pair[0] == one_token(old, 1) and pair[1] != one_token(new, 1):
        return False
    return all([after in known for _, after in _moves_of_both(old, new, pair)])
