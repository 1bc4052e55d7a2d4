"""An office: editions of workflows, and the cases that run in them."""

from caseflow.basics import is_integer, is_name
from caseflow.editions.moving import Mover, are_targets, targets_given
from caseflow.errors import InvalidNumber, InvalidOperation, TooMany
from caseflow.nets.clusters import list_clusters
from caseflow.nets.moves import has_tokens
from caseflow.nets.runs import follow_run, list_enabled, one_token
from caseflow.office.states import State, events_of_cases
from caseflow.readings.averages import as_fractions, place_values, value_at
from caseflow.readings.given import chances_given, costs_given
from caseflow.readings.limits import check_loops, graph_for_chances
from caseflow.readings.routes import least_route
from caseflow.readings.ways import cost_of_run, names_at
from caseflow.sound.handling import graph_from
from caseflow.sound.structure import check_sound

LIMITS = ("edition", "enabled", "least", "most")


class Office:
    """Editions and cases; what was done can be undone."""

    MAX_EDITIONS = 8
    MAX_CASES = 20

    def __init__(self):
        self._state = State((), None, {}, 0)
        # What stands and what was undone: pairs of a tuple of operations and the state before or behind them.
        self._done = []
        self._undone = []

    @property
    def edition(self):
        """The number of the current edition, or None."""
        return self._state.current

    @edition.setter
    def edition(self, value):
        self._perform((("current", value),))

    @property
    def running(self):
        """The number of cases that are not finished."""
        state = self._state
        return len([case for case in state.records if not state.is_at_end(case)])

    @property
    def spent(self):
        """The sum of the costs of all cases that were ever started."""
        return self._state.paid

    def editions(self):
        """Returns the workflow, the chances and the costs of each edition, as they were published."""
        return self._state.issued

    def cases(self):
        """Returns the names of the cases, ascending."""
        return tuple(sorted(self._state.records))

    def log(self):
        """Returns the operations that stand, in order."""
        return tuple([operation for operations, _ in self._done for operation in operations])

    @classmethod
    def replayed(cls, log):
        """Returns an office in which the operations of a tuple were performed, each by itself."""
        if not isinstance(log, tuple):
            raise InvalidOperation("not a tuple of operations")
        office = cls()
        for operation in log:
            office.apply(operation)
        return office

    def twin(self):
        """Returns another office that is equal to this one."""
        office = Office()
        office._state = self._state
        office._done = list(self._done)
        office._undone = list(self._undone)
        return office

    def publish(self, workflow, *, chances=None, costs=None):
        """Publishes a new edition and returns its number."""
        return self.apply(("publish", workflow, chances, costs))

    def start(self, case):
        """Starts a case in the current edition."""
        self.apply(("start", case))

    def close(self, case):
        """Removes a finished case and returns its cost."""
        return self.apply(("close", case))

    def do(self, case, *steps):
        """Does the steps of a case, all of them or none, and returns the marking behind them."""
        return self.apply(("do", case, steps))

    def move(self, case, edition, *, places=None):
        """Moves a case to an edition and returns its new marking."""
        return self.apply(("move", case, edition, places))

    def undo(self):
        """Undoes the last operation or group that stands."""
        if self._done == []:
            raise InvalidOperation("there is nothing to undo")
        operations, before = self._done.pop()
        self._undone.append((operations, self._state))
        self._state = before

    def redo(self):
        """Performs the last undone operation or group again."""
        if self._undone == []:
            raise InvalidOperation("there is nothing to redo")
        operations, behind = self._undone.pop()
        self._done.append((operations, self._state))
        self._state = behind

    def apply(self, operation):
        """Performs one operation and returns what its method returns."""
        return self._perform((operation,))[0]

    def apply_all(self, operations):
        """Performs the operations of a tuple, all of them or none, and returns how many there are."""
        if not isinstance(operations, tuple):
            raise InvalidOperation("not a tuple of operations")
        return len(self._perform(operations))

    def state(self, case):
        """Returns the edition, the marking and the cost of the case."""
        return self._state.record_of(case)

    def history(self, case):
        """Returns the events of the case."""
        self._state.record_of(case)
        return tuple(events_of_cases(self.log())[case])

    def enabled(self, case):
        """Returns the names of the steps that are enabled, ascending."""
        workflow, _, _, marking = self._situation(case)
        return tuple([step[0] for step in list_enabled(workflow, marking)])

    def remaining(self, case):
        """Returns the expected cost from the marking of the case to the end."""
        workflow, chances, costs, marking = self._situation(case)
        check_loops(graph_from(workflow, marking, None))
        return value_at(place_values(workflow, chances, as_fractions(costs)), marking)

    def cheapest(self, case):
        """Returns the least cost from the marking of the case to the end, and a run with it."""
        workflow, _, costs, marking = self._situation(case)
        graph = graph_from(workflow, marking, None)
        numbers, positions = least_route(graph, costs, graph.number_of(one_token(workflow, 1)))
        return (numbers[0], names_at(workflow, positions))

    def worklist(self):
        """Yields each case with each of its enabled clusters and the names of its steps."""
        for case in self.cases():
            workflow, _, _, marking = self._situation(case)
            for number, (inputs, names) in enumerate(list_clusters(workflow)):
                if has_tokens(marking, inputs):
                    yield (case, number, names)

    def wanted(self, **limits):
        """Returns the names of the cases that satisfy all given limits, ascending."""
        if not all([name in LIMITS for name in limits]):
            raise InvalidOperation("there is no such limit")
        if "edition" in limits:
            self._state.check_number(limits["edition"])
        for name in ("least", "most"):
            if name in limits and not is_integer(limits[name]):
                raise InvalidNumber(limits[name])
        return tuple([case for case in self.cases() if self._satisfies(case, limits)])

    def movable(self, edition, *, places=None):
        """Returns the names of the cases that are movable to the edition by these places, ascending."""
        self._state.check_number(edition)
        new = self._state.issued[edition][0]
        found = []
        for case in self.cases():
            old, _, _, marking = self._situation(case)
            if places is None or are_targets(old, new, places):
                if Mover(new, targets_given(old, new, places)).movable_to(marking) is not None:
                    found.append(case)
        return tuple(found)

    def __len__(self):
        return len(self._state.records)

    def __str__(self):
        return f"office with {len(self._state.issued)} editions, {len(self._state.records)} cases"

    def __eq__(self, other):
        if not isinstance(other, Office):
            return False
        return self._told() == other._told()

    def _told(self):
        """Returns what is compared with that of another office."""
        state = self._state
        events = events_of_cases(self.log())
        cases = [(case, state.records[case], events[case]) for case in self.cases()]
        return (state.issued, state.current, state.paid, cases)

    def _situation(self, case):
        """Returns the workflow, the chances and the costs of the edition of the case, and its marking."""
        edition, marking, _ = self._state.record_of(case)
        workflow, chances, costs = self._state.issued[edition]
        return workflow, chances_given(workflow, chances), costs_given(workflow, costs), marking

    def _satisfies(self, case, limits):
        number, _, cost = self.state(case)
        if limits.get("edition", number) != number:
            return False
        if "enabled" in limits and limits["enabled"] not in self.enabled(case):
            return False
        return limits.get("least", cost) <= cost <= limits.get("most", cost)

    def _perform(self, operations):
        """Performs the operations, all of them or none, and returns their answers."""
        state = self._state
        standing = []
        answers = []
        for operation in operations:
            _check_form(operation)
            action = _ACTIONS[operation[0]]
            state, answer = action(state, operation)
            answers.append(answer)
            if operation[0] != "do" or operation[2] != ():
                standing.append(operation)
        if standing != []:
            self._done.append((tuple(standing), self._state))
            self._undone = []
            self._state = state
        return answers


def _check_form(operation):
    """Raises InvalidOperation if the value does not have the form of an operation."""
    if not isinstance(operation, tuple) or operation == () or not isinstance(operation[0], str):
        raise InvalidOperation("not an operation")
    if len(operation) != _LENGTHS.get(operation[0], 0):
        raise InvalidOperation("no operation has this word and so many parts")
    if operation[0] == "do" and not isinstance(operation[2], tuple):
        raise InvalidOperation("the steps are not a tuple")


def _publish_in(state, operation):
    _, workflow, chances, costs = operation
    check_sound(workflow)
    # Both are only checked here, and kept as they are given.
    chances_given(workflow, chances)
    costs_given(workflow, costs)
    if len(state.issued) >= Office.MAX_EDITIONS:
        raise TooMany(Office.MAX_EDITIONS)
    graph_for_chances(workflow)
    return state.with_edition((workflow, chances, costs)), len(state.issued)


def _make_current_in(state, operation):
    state.check_number(operation[1])
    return state.with_current(operation[1]), None


def _start_in(state, operation):
    case = operation[1]
    if not is_name(case) or case in state.records or state.current is None:
        raise InvalidOperation("no case of this name can be started")
    if len(state.records) >= Office.MAX_CASES:
        raise TooMany(Office.MAX_CASES)
    first = one_token(state.issued[state.current][0], 0)
    return state.with_record(case, (state.current, first, 0), 0), None


def _do_in(state, operation):
    _, case, steps = operation
    edition, marking, cost = state.record_of(case)
    workflow, _, costs = state.issued[edition]
    after = follow_run(workflow, steps, marking)
    more = cost_of_run(workflow, costs_given(workflow, costs), steps)
    return state.with_record(case, (edition, after, cost + more), more), after


def _move_in(state, operation):
    _, case, edition, places = operation
    before, marking, cost = state.record_of(case)
    state.check_number(edition)
    old, new = state.issued[before][0], state.issued[edition][0]
    moved = Mover(new, targets_given(old, new, places)).movable_to(marking)
    if moved is None:
        raise InvalidOperation("the marking of the case is not movable")
    return state.with_record(case, (edition, moved, cost), 0), moved


def _close_in(state, operation):
    case = operation[1]
    _, _, cost = state.record_of(case)
    if not state.is_at_end(case):
        raise InvalidOperation("the case is not finished")
    return state.without_record(case), cost


_LENGTHS = {"publish": 4, "current": 2, "start": 2, "do": 3, "move": 4, "close": 2}
_ACTIONS = {
    "publish": _publish_in, "current": _make_current_in, "start": _start_in, "do": _do_in, "move": _move_in,
    "close": _close_in,
}
