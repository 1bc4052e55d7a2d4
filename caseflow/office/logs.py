"""Logs of cases, compared with the runs of a workflow."""

from caseflow.basics import is_integer, is_integer_within, is_name
from caseflow.errors import InvalidLog
from caseflow.nets.runs import end_of_run, fits_net, markings_along, one_token
from caseflow.nets.searches import run_between
from caseflow.office.corrections import Moves, moves_to, search_pairs
from caseflow.sound.structure import check_sound

MAX_NAMES = 60
KINDS = ("both", "log", "run")


def log_beginning(sound, log):
    """Returns how many of the first names of the log are a run, as many as possible."""
    _check(sound, log)
    return len(list(markings_along(sound, log, one_token(sound, 0)))) - 1


def completion(sound, log):
    """Returns a complete run that begins with the log and is as short as possible, or None."""
    _check(sound, log)
    marking = end_of_run(sound, log)
    return None if marking is None else log + run_between(sound, marking, one_token(sound, 1))


def least_alignment(sound, log):
    """Returns an alignment with as few corrections as possible."""
    _check(sound, log)
    moves = Moves(sound, log)
    return tuple([move[:2] for move in moves_to(search_pairs(moves), moves.last_pair)])


def is_alignment(sound, log, value):
    """Returns whether the value is an alignment."""
    _check(sound, log)
    if not isinstance(value, tuple) or not all([_is_kind_and_name(pair) for pair in value]):
        return False
    if tuple([name for kind, name in value if kind != "run"]) != log:
        return False
    run = tuple([name for kind, name in value if kind != "log"])
    return end_of_run(sound, run) == one_token(sound, 1)


def correction_bound(sound, log):
    """Returns a correction bound with the least number of corrections at the first marking and the position 0."""
    _check(sound, log)
    moves = Moves(sound, log)
    found = search_pairs(moves)
    least = found[moves.last_pair][0]
    return {pair: least - found[pair][0] for pair in sorted(found) if found[pair][0] < least}


def is_correction_bound(sound, log, value):
    """Returns whether the value is a correction bound."""
    _check(sound, log)
    if not isinstance(value, dict) or not all([_is_pair(sound, log, key) for key in value]):
        return False
    if not all([is_integer(value[key]) and value[key] >= 1 for key in value]):
        return False
    moves = Moves(sound, log)
    return moves.last_pair not in value and all([_keeps_bound(moves, value, key) for key in value])


def _check(sound, log):
    check_sound(sound)
    if not isinstance(log, tuple) or len(log) > MAX_NAMES or not all([is_name(name) for name in log]):
        raise InvalidLog("not a tuple of at most sixty names")


def _is_kind_and_name(value):
    if not isinstance(value, tuple) or len(value) != 2:
        return False
    return value[0] in KINDS and is_name(value[1])


def _is_pair(sound, log, value):
    if not isinstance(value, tuple) or len(value) != 2:
        return False
    return fits_net(sound, value[0]) and is_integer_within(value[1], 0, len(log))


def _keeps_bound(moves, value, key):
    """Returns whether no move from the key leads to a number that is smaller by more than its corrections."""
    free = [value.get(move[2], 0) for move in moves.free(key)]
    others = [value.get(move[2], 0) + 1 for move in moves.correcting(key)]
    return all([value[key] <= number for number in free + others])
