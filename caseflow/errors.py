"""The errors of the package."""


class FlowError(ValueError):
    """The base of the errors that take a message."""


class InvalidNet(FlowError):
    """A value is not a net."""


class InvalidWorkflow(FlowError):
    """A value is not a workflow."""


class InvalidMarking(FlowError):
    """A value is not a marking of the net."""


class InvalidPlaces(FlowError):
    """A value does not give places as it must."""


class InvalidOrder(FlowError):
    """A value is not an order of the workflow."""


class InvalidPlan(FlowError):
    """A value is not a closed plan of the workflow."""


class InvalidChances(FlowError):
    """A value does not give chances of the workflow."""


class InvalidCosts(FlowError):
    """A value does not give costs of the workflow."""


class InvalidLibrary(FlowError):
    """A value is not a library."""


class InvalidTerm(FlowError):
    """A term or a part of a workflow cannot be made like this."""


class InvalidLog(FlowError):
    """A value is not a log."""


class InvalidOperation(FlowError):
    """An office cannot perform this operation."""


class ParseError(FlowError):
    """A text is not the text of such a value."""


class InvalidCommand(FlowError):
    """A shell does not know this command."""


class UnknownStep(KeyError):
    """No step has this name."""

    def __init__(self, name):
        KeyError.__init__(self, "no step has this name")
        self.name = copied(name)


class UnknownName(KeyError):
    """Nothing has this name."""

    def __init__(self, name):
        KeyError.__init__(self, "nothing has this name")
        self.name = copied(name)


class InvalidRun(LookupError):
    """The step at this position of a run cannot be done."""

    def __init__(self, at):
        LookupError.__init__(self, "the run cannot go on from this position")
        self.at = copied(at)


class InvalidNumber(IndexError):
    """A value is not one of the numbers that are allowed here."""

    def __init__(self, value):
        IndexError.__init__(self, "not one of the numbers that are allowed")
        self.value = copied(value)


class TooMany(OverflowError):
    """There are more than the limit allows."""

    def __init__(self, limit):
        OverflowError.__init__(self, "more than the limit allows")
        self.limit = copied(limit)


class NotSound(RuntimeError):
    """A workflow is not sound, as the paper shows."""

    def __init__(self, paper):
        RuntimeError.__init__(self, "the workflow is not sound")
        self.paper = copied(paper)


def copied(value):
    """Returns an equal value that shares no list and no dict with this one."""
    # An error keeps what a caller passed, and the caller may change that later.
    if isinstance(value, list):
        return [copied(part) for part in value]
    if isinstance(value, tuple):
        return tuple([copied(part) for part in value])
    if isinstance(value, dict):
        return {key: copied(value[key]) for key in value}
    return value
