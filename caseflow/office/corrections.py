"""How many corrections lead from the beginning to a marking and a position in a log.

A pair is a marking and a position. A move is a triple: its kind, which is "both",
"log" or "run", the name of what it does, and the pair to which it leads.
"""

from caseflow.errors import TooMany
from caseflow.nets.moves import has_tokens, marking_behind
from caseflow.nets.runs import MAX_MARKINGS, list_enabled, one_token


class Moves:
    """What can be done at the pairs of a sound workflow and a log."""

    def __init__(self, sound, log):
        self._sound = sound
        self._log = log
        self._steps = {step[0]: step for step in sound[1]}
        self.first_pair = (one_token(sound, 0), 0)
        self.last_pair = (one_token(sound, 1), len(log))

    def free(self, pair):
        """Returns the move that takes no correction, if there is one, in a list."""
        marking, position = pair
        if position == len(self._log) or self._log[position] not in self._steps:
            return []
        step = self._steps[self._log[position]]
        if not has_tokens(marking, step[1]):
            return []
        return [("both", step[0], (marking_behind(marking, step), position + 1))]

    def correcting(self, pair):
        """Returns the moves that take a correction."""
        marking, position = pair
        steps = list_enabled(self._sound, marking)
        moves = [("run", step[0], (marking_behind(marking, step), position)) for step in steps]
        if position < len(self._log):
            moves.append(("log", self._log[position], (marking, position + 1)))
        return moves


def search_pairs(moves):
    """Returns a dict from pairs to their least numbers of corrections and the last moves that lead to them.

    A value is a triple: the number, the last move, and the pair before it; the two
    are None for the first pair. The last pair and all pairs with fewer corrections
    are among the keys. Raises TooMany(4096) if there are too many of the latter.
    """
    found = {}
    level = [(moves.first_pair, None, None)]
    many = 0
    while moves.last_pair not in found:
        # The last pair has more corrections than all that were found so far.
        if len(found) > MAX_MARKINGS:
            raise TooMany(MAX_MARKINGS)
        pairs = _add_level(moves, found, level, many)
        level = []
        # With too many pairs all depends on whether the last one was on this level.
        if len(found) <= MAX_MARKINGS:
            level = [(move[2], move, pair) for pair in pairs for move in moves.correcting(pair)]
        many += 1
    return found


def moves_to(found, pair):
    """Returns the moves that lead to the pair, in order."""
    way = []
    _, move, before = found[pair]
    while move is not None:
        way.append(move)
        _, move, before = found[before]
    return list(reversed(way))


def _add_level(moves, found, level, many):
    """Adds the pairs of the level that are new, and those to which free moves lead; returns all these."""
    added = []
    waiting = list(level)
    while waiting and moves.last_pair not in found:
        pair, move, before = waiting.pop()
        if pair not in found:
            found[pair] = (many, move, before)
            added.append(pair)
            waiting.extend([(free[2], free, pair) for free in moves.free(pair)])
    return added
