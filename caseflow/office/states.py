"""What an office knows at one time, and what its operations tell of the cases."""

from caseflow.basics import is_integer_within
from caseflow.errors import InvalidNumber, UnknownName
from caseflow.nets.runs import one_token


class State:
    """What an office knows at one time; it is never changed, an operation leads to another one.

    It has the editions as they were published, the number of the current one, a
    dict from the names of the cases to their editions, markings and costs, and
    the sum of all costs.
    """

    def __init__(self, issued, current, records, paid):
        self.issued = issued
        self.current = current
        self.records = records
        self.paid = paid

    def with_edition(self, edition):
        """Returns the state in which this edition is published, too."""
        current = 0 if self.current is None else self.current
        return State(self.issued + (edition,), current, self.records, self.paid)

    def with_current(self, number):
        """Returns the state in which the edition with this number is the current one."""
        return State(self.issued, number, self.records, self.paid)

    def with_record(self, case, record, cost):
        """Returns the state in which this is known of the case, and so much more was paid."""
        records = {name: self.records[name] for name in self.records}
        records[case] = record
        return State(self.issued, self.current, records, self.paid + cost)

    def without_record(self, case):
        """Returns the state in which there is no such case."""
        records = {name: self.records[name] for name in self.records if name != case}
        return State(self.issued, self.current, records, self.paid)

    def record_of(self, case):
        """Returns the edition, the marking and the cost of the case, or raises UnknownName."""
        if not isinstance(case, str) or case not in self.records:
            raise UnknownName(case)
        return self.records[case]

    def check_number(self, edition):
        """Raises InvalidNumber if the value is not the number of an edition."""
        if not is_integer_within(edition, 0, len(self.issued) - 1):
            raise InvalidNumber(edition)

    def is_at_end(self, case):
        """Returns whether the marking of the case is the last one."""
        edition, marking, _ = self.records[case]
        return marking == one_token(self.issued[edition][0], 1)


def events_of_cases(operations):
    """Returns a dict from the names of all cases to their events; of a name that is used again the last ones."""
    found = {}
    current = None
    for operation in operations:
        word, first = operation[:2]
        if word == "publish" and current is None:
            current = 0
        elif word == "current":
            current = first
        elif word == "start":
            found[first] = []
            found[first].append(("start", current))
        elif word == "do":
            for step in operation[2]:
                found[first].append(("do", step))
        elif word == "move":
            found[first].append(("move", operation[2]))
    return found
