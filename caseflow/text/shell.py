"""A shell: an office that is told by commands what to do."""

from caseflow.basics import is_integer_within, is_name
from caseflow.editions.markings import occurs
from caseflow.errors import InvalidCommand, InvalidNumber, ParseError
from caseflow.office.office import Office
from caseflow.sound.faults import find_fault
from caseflow.terms.terms import Term
from caseflow.text.formats import (
    format_fraction, format_names, format_net, parse_names, parse_net, read_chances, read_costs, read_integer,
    read_places, text_of_places,
)


class Shell:
    """An office, and the chances and costs for its next edition."""

    def __init__(self):
        self._office = Office()
        self._chances = None
        self._costs = None
        self._answers = []

    def run(self, command):
        """Carries out a command and returns its answer."""
        word, parts = _word_and_parts(command)
        if word == "chances":
            self._chances = read_chances(" ".join(parts))
            answer = "ok"
        elif word == "costs":
            self._costs = read_costs(" ".join(parts))
            answer = "ok"
        elif word == "publish":
            net = parse_net(parts[0])
            answer = str(self._office.publish(net, chances=self._chances, costs=self._costs))
        else:
            action = _ACTIONS[word]
            answer = action(self._office, parts)
        self._answers.append(answer)
        return answer

    def run_all(self, *commands):
        """Carries out the commands in order and returns their answers."""
        return tuple([self.run(command) for command in commands])

    def office(self):
        """Returns an independent office that is equal to that of the shell."""
        return self._office.twin()

    def __len__(self):
        return len(self._answers)

    def __str__(self):
        return f"shell with {len(self._answers)} answers"

    def __eq__(self, other):
        if not isinstance(other, Shell):
            return False
        if self._chances != other._chances or self._costs != other._costs:
            return False
        return self._office == other._office and len(self._answers) == len(other._answers)


def _word_and_parts(command):
    """Returns the first word and the parts behind it, or raises InvalidCommand."""
    if not isinstance(command, str):
        raise InvalidCommand("not a text")
    word = command.split("\n")[0].split(" ")[0]
    rest = command[len(word):]
    if word not in _PARTS:
        raise InvalidCommand("no command begins with this word")
    if word in ("publish", "sound"):
        if not rest.startswith("\n"):
            raise InvalidCommand("a net stands in the lines behind this word")
        return word, [rest[1:]]
    if rest.startswith("\n"):
        raise InvalidCommand("a space stands behind this word")
    parts = rest.split(" ")[1:]
    least, most = _PARTS[word]
    if len(parts) < least or (most is not None and len(parts) > most):
        raise InvalidCommand("too few or too many parts")
    return word, parts


def _case(text):
    if not is_name(text):
        raise ParseError("not the name of a case")
    return text


def _tokens(text):
    """Returns the integers of at least 0 with this text."""
    tokens = read_places(text)
    if min(tokens) < 0:
        raise ParseError("less than no tokens")
    return tokens


def _answer_term(_, parts):
    return format_net(Term.read(" ".join(parts)).workflow())


def _answer_sound(_, parts):
    fault = find_fault(parse_net(parts[0]))
    if fault is None:
        return "sound"
    if fault[0] == "left":
        return f"left {format_names(fault[1])}"
    return f"empty {text_of_places(fault[2])} {format_names(fault[1])}"


def _answer_current(office, parts):
    office.apply(("current", read_integer(parts[0])))
    return "ok"


def _answer_start(office, parts):
    office.start(_case(parts[0]))
    return "ok"


def _answer_undo(office, _):
    office.undo()
    return "ok"


def _answer_redo(office, _):
    office.redo()
    return "ok"


def _answer_do(office, parts):
    operation = ("do", _case(parts[0]), parse_names(" ".join(parts[1:])))
    return text_of_places(office.apply(operation))


def _answer_move(office, parts):
    return text_of_places(office.move(_case(parts[0]), read_integer(parts[1])))


def _answer_close(office, parts):
    return str(office.close(_case(parts[0])))


def _answer_cases(office, _):
    return format_names(office.cases())


def _answer_enabled(office, parts):
    return format_names(office.enabled(_case(parts[0])))


def _answer_state(office, parts):
    edition, marking, cost = office.state(_case(parts[0]))
    return f"{edition} {text_of_places(marking)} {cost}"


def _answer_expected(office, parts):
    return format_fraction(office.remaining(_case(parts[0])))


def _answer_cheapest(office, parts):
    cost, run = office.cheapest(_case(parts[0]))
    return f"{cost} {format_names(run)}"


def _answer_occurs(office, parts):
    edition, marking = read_integer(parts[0]), _tokens(parts[1])
    editions = office.editions()
    if not is_integer_within(edition, 0, len(editions) - 1):
        raise InvalidNumber(edition)
    return "yes" if occurs(editions[edition][0], marking) else "no"


# The least and the greatest number of parts behind each word; None where there is no greatest one.
_PARTS = {
    "publish": (1, 1), "sound": (1, 1), "costs": (1, None), "chances": (1, None), "term": (1, None),
    "current": (1, 1), "start": (1, 1), "undo": (0, 0), "redo": (0, 0), "do": (2, None), "move": (2, 2),
    "close": (1, 1), "cases": (0, 0), "enabled": (1, 1), "state": (1, 1), "expected": (1, 1), "cheapest": (1, 1),
    "occurs": (2, 2),
}
_ACTIONS = {
    "sound": _answer_sound, "term": _answer_term, "current": _answer_current, "start": _answer_start,
    "undo": _answer_undo, "redo": _answer_redo, "do": _answer_do, "move": _answer_move, "close": _answer_close,
    "cases": _answer_cases, "enabled": _answer_enabled, "state": _answer_state, "expected": _answer_expected,
    "cheapest": _answer_cheapest, "occurs": _answer_occurs,
}
