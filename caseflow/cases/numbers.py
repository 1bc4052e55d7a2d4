"""The complete cases with a number of steps, numbered in the order of their normal runs."""

from caseflow.basics import is_integer, is_integer_within
from caseflow.cases.choices import normal_form, orders_of_case
from caseflow.errors import InvalidNumber
from caseflow.nets.runs import MAX_LENGTH, check_complete, follow_run, one_token
from caseflow.sound.handling import graph_by_order, steps_to_end
from caseflow.sound.loops import states_in_postorder, states_on_loops
from caseflow.sound.structure import check_sound


def count_cases(sound, length):
    """Returns how many complete cases have this number of steps."""
    check_sound(sound)
    _check_length(length)
    graph = graph_by_order(sound, None)
    return _rows_of_ways(sound, graph, length)[length][0]


def case_at(sound, length, number):
    """Returns the normal run of the case with this number of steps and this number."""
    check_sound(sound)
    _check_length(length)
    if not is_integer(number) or number < 0:
        raise InvalidNumber(number)
    graph = graph_by_order(sound, None)
    rows = _rows_of_ways(sound, graph, length)
    if number >= rows[length][0]:
        raise InvalidNumber(number)
    state = 0
    rest = number
    names = []
    for left in reversed(range(length)):
        move, rest = _move_to(graph.moves[state], rows[left], rest)
        names.append(sound[1][move[0]][0])
        state = move[1]
    return tuple(names)


def case_number(sound, complete):
    """Returns the number of the case of the complete run among the cases with as many steps."""
    check_sound(sound)
    check_complete(sound, complete)
    graph = graph_by_order(sound, None)
    number = 0
    row = _ways_of_length_0(sound, graph)
    # The run is read from its end, so that only one row of ways is kept.
    for state, at in reversed(_path_of(sound, graph, complete)):
        number += sum([row[after] for other, after in graph.moves[state] if other < at])
        row = _ways_of_next_length(graph, row)
    return number


def complete_cases(sound, *, longest=20):
    """Yields the normal runs of all complete cases with at most so many steps."""
    check_sound(sound)
    _check_length(longest)
    graph = graph_by_order(sound, None)
    rows = _rows_of_ways(sound, graph, longest)
    for length in range(longest + 1):
        if rows[length][0] > 0:
            yield from _cases_of_length(sound, graph, rows, length)


def case_lengths(sound):
    """Returns the least and the greatest number of steps of complete cases; None if there is no greatest one."""
    check_sound(sound)
    graph = graph_by_order(sound, None)
    behind = graph.states_behind()
    shortest = steps_to_end(graph, graph.number_of(one_token(sound, 1)))[0]
    if states_on_loops(behind) != []:
        return (shortest, None)
    longest = [0 for _ in behind]
    for state in states_in_postorder(behind):
        longest[state] = max([0] + [longest[after] + 1 for after in behind[state]])
    return (shortest, longest[0])


class Case:
    """The case of a run of a sound workflow."""

    def __init__(self, sound, run):
        check_sound(sound)
        self._marking = follow_run(sound, run, one_token(sound, 0))
        self._workflow = sound
        self._names = normal_form(sound, run)

    @property
    def names(self):
        """The normal run."""
        return self._names

    @property
    def marking(self):
        """The marking that the normal run leads to."""
        return self._marking

    @property
    def is_finished(self):
        """Whether the case is complete."""
        return self._marking == one_token(self._workflow, 1)

    def runs(self):
        """Yields the runs that belong to the case, ascending, the normal run first."""
        yield from orders_of_case(self._workflow, self._names)

    def then(self, *names):
        """Returns the case of the run that goes on with these steps."""
        follow_run(self._workflow, names, self._marking)
        return Case(self._workflow, self._names + names)

    @classmethod
    def numbered(cls, sound, length, number):
        """Returns the case with this number of steps and this number."""
        return cls(sound, case_at(sound, length, number))

    def __len__(self):
        return len(self._names)

    def __str__(self):
        if self._names == ():
            return "nothing"
        return " then ".join(self._names)

    def __eq__(self, other):
        if not isinstance(other, Case):
            return False
        return self._workflow == other._workflow and self._names == other._names


def _check_length(length):
    if not is_integer_within(length, 0, MAX_LENGTH):
        raise InvalidNumber(length)


def _ways_of_length_0(sound, graph):
    last = one_token(sound, 1)
    return [int(marking == last) for marking in graph.states]


def _ways_of_next_length(graph, row):
    """Returns for each state the number of ways to the end with one step more than in this row."""
    return [sum([row[after] for _, after in moves]) for moves in graph.moves]


def _rows_of_ways(sound, graph, length):
    rows = [_ways_of_length_0(sound, graph)]
    for _ in range(length):
        rows.append(_ways_of_next_length(graph, rows[-1]))
    return rows


def _move_to(moves, row, number):
    """Returns the move behind which the way with this number goes on, and its number among those behind it."""
    rest = number
    for move in moves:
        if rest < row[move[1]]:
            return move, rest
        rest -= row[move[1]]
    return None, rest


def _path_of(sound, graph, complete):
    """Returns the states that the normal run passes, each with the position of the step done there."""
    positions = {step[0]: at for at, step in enumerate(sound[1])}
    state = 0
    path = []
    for name in normal_form(sound, complete):
        at = positions[name]
        path.append((state, at))
        state = [after for other, after in graph.moves[state] if other == at][0]
    return path


def _cases_of_length(sound, graph, rows, length):
    """Yields the cases with this number of steps, in the order of their numbers."""
    names = []
    waiting = [(0, "", 0)]
    while waiting:
        many, name, state = waiting.pop()
        del names[many:]
        names.append(name)
        if many == length:
            yield tuple(names[1:])
        else:
            row = rows[length - many - 1]
            # What stands there last is taken first.
            for at, after in reversed(graph.moves[state]):
                if row[after] > 0:
                    waiting.append((many + 1, sound[1][at][0], after))
