"""Walks: runs that go on step by step."""

from caseflow.basics import is_integer_within
from caseflow.errors import InvalidNumber, TooMany
from caseflow.nets.nets import check_net
from caseflow.nets.runs import list_enabled, one_token, pass_run


class Walk:
    """A run from the first marking, and the markings on its way."""

    LONGEST = 400

    def __init__(self, net):
        check_net(net)
        self._net = net
        self._names = ()
        self._passed = (one_token(net, 0),)

    @property
    def marking(self):
        """The present marking."""
        return self._passed[-1]

    @property
    def next_steps(self):
        """The names of the enabled steps, ascending."""
        return tuple([step[0] for step in list_enabled(self._net, self._passed[-1])])

    @property
    def names(self):
        """The run so far."""
        return self._names

    @names.setter
    def names(self, value):
        self.put(value)

    def put(self, run):
        """Puts the run in the place of the run so far, and returns the marking."""
        passed = pass_run(self._net, run, self._passed[0])
        _check_length(len(run))
        self._names = run
        self._passed = passed
        return passed[-1]

    def do(self, *names):
        """Does the steps, all of them or none, and returns the marking."""
        passed = pass_run(self._net, names, self._passed[-1])
        _check_length(len(self._names) + len(names))
        self._names = self._names + names
        self._passed = self._passed + passed[1:]
        return passed[-1]

    def markings(self):
        """Yields the markings from the first one to the present one."""
        yield from self._passed

    def back(self, many=1):
        """Undoes the last steps, and returns the marking."""
        if not is_integer_within(many, 0, len(self._names)):
            raise InvalidNumber(many)
        left = len(self._names) - many
        self._names = self._names[:left]
        self._passed = self._passed[:left + 1]
        return self._passed[-1]

    @classmethod
    def along(cls, net, run):
        """Returns a walk with this run."""
        walk = cls(net)
        walk.put(run)
        return walk

    @staticmethod
    def is_long_enough(many):
        """Returns whether the value is an integer from 0 to the most steps of a walk."""
        return is_integer_within(many, 0, Walk.LONGEST)

    def __len__(self):
        return len(self._names)

    def __str__(self):
        return f"walk of {len(self._names)} steps"

    def __eq__(self, other):
        if not isinstance(other, Walk):
            return False
        return self._net == other._net and self._names == other._names


def _check_length(many):
    if many > Walk.LONGEST:
        raise TooMany(Walk.LONGEST)
