"""How long runs can go on, found without following all of them."""

from caseflow.nets.moves import has_tokens, marking_behind
from caseflow.nets.nets import have_common


class Lookahead:
    """Tells of the markings of one net how long the runs from there are."""

    def __init__(self, net):
        places, steps = net
        self._steps = steps
        self._rivals = [_numbers_of_rivals(steps, step[1]) for step in steps]
        self._givers = [_numbers_of_givers(steps, place) for place in range(places)]
        self._longest = {}
        self._surely = {}

    def reaches(self, marking, many):
        """Returns whether a run with so many steps begins at the marking."""
        if many <= self._surely.get(marking, 0):
            return True
        if marking in self._longest:
            return many <= self._longest[marking]
        longest = 0
        for at in self._steps_to_try(marking):
            after = marking_behind(marking, self._steps[at])
            if self.reaches(after, many - 1):
                self._surely[marking] = many
                return True
            longest = max(longest, 1 + self._longest[after])
        self._longest[marking] = longest
        return False

    def _steps_to_try(self, marking):
        """Returns the numbers of enabled steps that are enough to try.

        They are the enabled ones of a set of steps. No step outside takes a
        token that an enabled one of the set needs, or gives one to the empty
        place for which another one of the set waits. So the first step of the
        set in a run can as well be done before all the others; and any enabled
        one can be put before a run that has none of them.
        """
        waiting = self._first_enabled(marking)
        chosen = {at: True for at in waiting}
        while waiting:
            at = waiting.pop()
            for other in self._steps_to_add(marking, at):
                if other not in chosen:
                    chosen[other] = True
                    waiting.append(other)
        return [at for at in sorted(chosen) if has_tokens(marking, self._steps[at][1])]

    def _first_enabled(self, marking):
        for at, step in enumerate(self._steps):
            if has_tokens(marking, step[1]):
                return [at]
        return []

    def _steps_to_add(self, marking, at):
        for place in self._steps[at][1]:
            if marking[place] == 0:
                return self._givers[place]
        return self._rivals[at]


def _numbers_of_rivals(steps, inputs):
    return [at for at, step in enumerate(steps) if have_common(inputs, step[1])]


def _numbers_of_givers(steps, place):
    return [at for at, step in enumerate(steps) if place in step[2] and place not in step[1]]
