"""What the document says of an office, written down once more: all is told from the operations that stand."""

import re
from fractions import Fraction

from tests import plain, plain_algebra, plain_editions, plain_library, plain_occurring, plain_readings

LENGTHS = {"publish": 4, "current": 2, "start": 2, "do": 3, "move": 4, "close": 2}


class Refused(Exception):
    """An operation is refused, with the name of the error and what it bears."""

    def __init__(self, error, **bears):
        Exception.__init__(self, error)
        self.told = ("raised", error, bears)


def is_name(value):
    return type(value) is str and re.fullmatch("[a-z]{1,8}", value) is not None


class Known:
    """What is known after some operations."""

    def __init__(self):
        self.editions = []
        self.current = None
        self.cases = {}
        self.spent = 0

    def workflow(self, case):
        return self.editions[self.cases[case]["edition"]][0]

    def perform(self, operation):
        """Performs an operation and returns its answer, or raises Refused."""
        if type(operation) is not tuple or not operation or type(operation[0]) is not str:
            raise Refused("InvalidOperation")
        if LENGTHS.get(operation[0]) != len(operation):
            raise Refused("InvalidOperation")
        if operation[0] == "do" and type(operation[2]) is not tuple:
            raise Refused("InvalidOperation")
        return getattr(self, operation[0])(*operation[1:])

    def publish(self, workflow, chances, costs):
        if not plain.is_net(workflow) or plain.defects(workflow):
            raise Refused("InvalidWorkflow")
        if not plain_algebra.is_sound(workflow):
            raise Refused("NotSound")
        if chances is not None and not plain_library.are_chances(workflow, chances):
            raise Refused("InvalidChances")
        if costs is not None and not plain_library.are_costs(workflow, costs):
            raise Refused("InvalidCosts")
        if len(self.editions) == 8:
            raise Refused("TooMany", limit=8)
        self.editions.append((workflow, chances, costs))
        self.current = 0 if self.current is None else self.current
        return len(self.editions) - 1

    def check_edition(self, edition):
        if type(edition) is not int or not 0 <= edition < len(self.editions):
            raise Refused("InvalidNumber", value=edition)

    def check_case(self, case):
        if type(case) is not str or case not in self.cases:
            raise Refused("UnknownName", name=case)

    def start(self, case):
        if not is_name(case) or case in self.cases or self.current is None:
            raise Refused("InvalidOperation")
        if len(self.cases) == 20:
            raise Refused("TooMany", limit=20)
        self.cases[case] = {
            "edition": self.current, "marking": plain.first(self.editions[self.current][0]), "cost": 0,
            "history": [("start", self.current)],
        }

    def do(self, case, steps):
        self.check_case(case)
        told = self.cases[case]
        passed = plain.follow(self.workflow(case), steps, told["marking"])
        if type(passed) is int:
            raise Refused("InvalidRun", at=passed)
        costs = plain_readings.costs_of(self.workflow(case), self.editions[told["edition"]][2])
        more = sum(plain_readings.of_run(self.workflow(case), costs, steps))
        told["marking"] = passed[-1]
        told["cost"] += more
        told["history"] += [("do", step) for step in steps]
        self.spent += more
        return passed[-1]

    def current_edition(self, edition):
        self.check_edition(edition)
        self.current = edition

    def move(self, case, edition, places):
        self.check_case(case)
        self.check_edition(edition)
        old, new = self.workflow(case), self.editions[edition][0]
        if places is not None and not plain_editions.are_places(old, new, places):
            raise Refused("InvalidPlaces")
        moved = plain_editions.moved(old, new, self.cases[case]["marking"], places)
        if moved not in plain_occurring.distances(new):
            raise Refused("InvalidOperation")
        self.cases[case].update(edition=edition, marking=moved)
        self.cases[case]["history"].append(("move", edition))
        return moved

    def close(self, case):
        self.check_case(case)
        if self.cases[case]["marking"] != plain.last(self.workflow(case)):
            raise Refused("InvalidOperation")
        return self.cases.pop(case)["cost"]


class PlainOffice:
    """An office that works out everything anew from the operations that stand."""

    def __init__(self):
        self.groups = []
        self.undone = []

    def known(self):
        known = Known()
        for group in self.groups:
            for operation in group:
                perform(known, operation)
        return known

    def apply(self, operation):
        return self.all_of((operation,))[0]

    def apply_all(self, operations):
        if type(operations) is not tuple:
            raise Refused("InvalidOperation")
        return len(self.all_of(operations))

    def all_of(self, operations):
        known = self.known()
        answers = [perform(known, operation) for operation in operations]
        group = [operation for operation in operations if operation[0] != "do" or operation[2]]
        if group:
            self.groups.append(group)
            self.undone = []
        return answers

    def undo(self):
        if not self.groups:
            raise Refused("InvalidOperation")
        self.undone.append(self.groups.pop())

    def redo(self):
        if not self.undone:
            raise Refused("InvalidOperation")
        self.groups.append(self.undone.pop())

    def told(self):
        """Returns all that an office tells of itself."""
        known = self.known()
        cases = []
        for case in sorted(known.cases):
            told = known.cases[case]
            workflow, chances, costs = known.editions[told["edition"]]
            enabled = tuple(step[0] for step in plain.enabled(workflow, told["marking"]))
            cases.append((
                case, (told["edition"], told["marking"], told["cost"]), tuple(told["history"]), enabled,
                remaining(workflow, chances, costs, told["marking"]), cheapest(workflow, costs, told["marking"]),
            ))
        running = [case for case in known.cases if known.cases[case]["marking"] != plain.last(known.workflow(case))]
        return (
            tuple(known.editions), known.current, len(running), known.spent, len(known.cases),
            "office with {} editions, {} cases".format(len(known.editions), len(known.cases)),
            tuple(operation for group in self.groups for operation in group), worklist(known), tuple(cases),
        )


def perform(known, operation):
    """Performs an operation in what is known; "current" is an attribute there."""
    if type(operation) is tuple and len(operation) == 2 and operation[0] == "current":
        return known.current_edition(operation[1])
    return known.perform(operation)


def worklist(known):
    found = []
    for case in sorted(known.cases):
        workflow = known.workflow(case)
        for number, steps in enumerate(plain_algebra.groups(workflow)):
            if all(known.cases[case]["marking"][place] for place in steps[0][1]):
                found.append((case, number, tuple(step[0] for step in steps)))
    return tuple(found)


def behind(workflow, marking):
    """Returns for each marking met by the first order from this one on its moves: positions and markings."""
    found = {}
    waiting = [marking]
    while waiting:
        key = waiting.pop()
        if key not in found and key != plain.last(workflow):
            number = plain_readings.clusters_enabled(workflow, key)[0]
            found[key] = [
                (workflow[1].index(step), plain.done(key, step)) for step in plain_algebra.groups(workflow)[number]
            ]
            waiting += [after for _, after in found[key]]
    return found


def remaining(workflow, chances, costs, marking):
    """Returns the expected cost from the marking, from the equations of the markings behind it."""
    found = behind(workflow, marking)
    last = plain.last(workflow)
    if marking == last:
        return (0, 1)
    parts = plain_readings.chances_of(workflow, chances)
    prices = plain_readings.costs_of(workflow, costs)
    rows = {key: (
        sum(parts[at] * prices[at] for at, _ in found[key]),
        [(after, parts[at]) for at, after in found[key] if after != last],
    ) for key in found}
    return plain_readings.as_pair(Fraction(plain_readings.solved(rows)[marking]))


def cheapest(workflow, costs, marking):
    """Returns the least cost of a run from the marking to the last one, whatever is handled first."""
    prices = plain_readings.costs_of(workflow, costs)
    least = {marking: 0}
    waiting = [marking]
    while waiting:
        key = waiting.pop(0)
        for step in plain.enabled(workflow, key):
            after, cost = plain.done(key, step), least[key] + prices[workflow[1].index(step)]
            if cost < least.get(after, cost + 1):
                least[after] = cost
                waiting.append(after)
    return least[plain.last(workflow)]
