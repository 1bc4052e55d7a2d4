"""Texts of nets, libraries, markings, names and fractions.

Each value has exactly one text. What reads a text takes this one only, and raises
ParseError otherwise.
"""

from caseflow.basics import is_fraction, is_name
from caseflow.errors import InvalidLibrary, InvalidLog, InvalidNumber, ParseError, TooMany
from caseflow.library.library import is_library
from caseflow.nets.nets import check_net, is_net
from caseflow.nets.runs import check_marking, fits_net

MAX_DIGITS = 400


def format_net(net):
    """Returns the text of the net."""
    check_net(net)
    return "\n".join(_lines_of_net(net))


def parse_net(text):
    """Returns the net with this text."""
    lines = _lines_of(text)
    net, at = _read_net(lines, 0)
    if at < len(lines) or not is_net(net):
        raise ParseError("not the text of a net")
    return net


def format_library(library):
    """Returns the text of the library."""
    if not is_library(library):
        raise InvalidLibrary("not a library")
    return "\n".join([line for entry in library for line in _lines_of_entry(entry)])


def parse_library(text):
    """Returns the library with this text."""
    lines = _lines_of(text)
    entries = []
    at = 0
    while at < len(lines):
        entry, at = _read_entry(lines, at)
        entries.append(entry)
    if not is_library(tuple(entries)):
        raise ParseError("not the text of a library")
    return tuple(entries)


def format_marking(net, marking):
    """Returns the text of the marking."""
    check_net(net)
    check_marking(net, marking)
    return text_of_places(marking)


def parse_marking(net, text):
    """Returns the marking of the net with this text."""
    check_net(net)
    _check_text(text)
    marking = read_places(text)
    if not fits_net(net, marking):
        raise ParseError("not the text of a marking of the net")
    return marking


def format_names(names):
    """Returns the text of a tuple of names."""
    if not isinstance(names, tuple) or not all([is_name(name) for name in names]):
        raise InvalidLog("not a tuple of names")
    return " ".join(names) if names != () else "-"


def parse_names(text):
    """Returns the names with this text."""
    _check_text(text)
    names = tuple(text.split(" ")) if text != "-" else ()
    if not all([is_name(name) for name in names]):
        raise ParseError("not the text of names")
    return names


def format_fraction(fraction):
    """Returns the text of the fraction."""
    if not is_fraction(fraction):
        raise InvalidNumber(fraction)
    if not all([_can_be_written(number) for number in fraction]):
        raise TooMany(MAX_DIGITS)
    return f"{fraction[0]}/{fraction[1]}"


def parse_fraction(text):
    """Returns the fraction with this text."""
    _check_text(text)
    fraction = tuple([read_integer(part) for part in text.split("/")])
    if not is_fraction(fraction):
        raise ParseError("not the text of a fraction")
    return fraction


def read_integer(text):
    """Returns the integer with this text."""
    digits = text[1:] if text.startswith("-") else text
    if not 1 <= len(digits) <= MAX_DIGITS or not all(["0" <= digit <= "9" for digit in digits]):
        raise ParseError("not an integer")
    if digits.startswith("0") and text != "0":
        raise ParseError("an integer does not begin with 0, and there is no -0")
    return int(text)


def read_places(text):
    """Returns the integers with this text, as places and markings are written."""
    return tuple([read_integer(part) for part in text.split(",")])


def text_of_places(places):
    """Returns the text of these places or tokens."""
    return ",".join([str(place) for place in places])


def read_chances(text):
    """Returns the fractions with this text, or None."""
    return None if text == "-" else tuple([parse_fraction(part) for part in text.split(" ")])


def read_costs(text):
    """Returns the integers with this text, or None."""
    return None if text == "-" else tuple([read_integer(part) for part in text.split(" ")])


def _can_be_written(number):
    # An integer with more bits has too many digits anyway, and they would take long to be found.
    return number.bit_length() <= 4 * MAX_DIGITS and len(str(abs(number))) <= MAX_DIGITS


def _check_text(text):
    if not isinstance(text, str):
        raise ParseError("not a text")


def _lines_of(text):
    _check_text(text)
    return text.split("\n")


def _words_of_line(lines, at, word, many):
    """Returns what stands behind this word in the line, so many words."""
    words = lines[at].split(" ") if at < len(lines) else []
    if len(words) != many + 1 or words[0] != word:
        raise ParseError("another line must stand here")
    return words[1:]


def _text_of_line(lines, at, word):
    """Returns what stands behind this word and a space in the line."""
    if at >= len(lines) or not lines[at].startswith(f"{word} "):
        raise ParseError("another line must stand here")
    return lines[at][len(word) + 1:]


def _lines_of_net(net):
    steps = [f"{name} {text_of_places(inputs)} > {text_of_places(outputs)}" for name, inputs, outputs in net[1]]
    return [f"places {net[0]}"] + steps


def _read_net(lines, at):
    """Returns the net that begins in this line, and the line behind it; it can still be no net."""
    places = read_integer(_words_of_line(lines, at, "places", 1)[0])
    steps = []
    position = at + 1
    # Only the line of a step has this sign as its third word.
    while position < len(lines) and lines[position].split(" ")[2:3] == [">"]:
        words = lines[position].split(" ")
        if len(words) != 4:
            raise ParseError("the line of a step has four parts")
        steps.append((words[0], read_places(words[1]), read_places(words[3])))
        position += 1
    return (places, tuple(steps)), position


def _lines_of_entry(entry):
    name, workflow, chances, costs, uses = entry
    parts = "-" if chances is None else " ".join([format_fraction(part) for part in chances])
    numbers = "-" if costs is None else " ".join([str(cost) for cost in costs])
    lines = [f"entry {name}"] + _lines_of_net(workflow) + [f"chances {parts}", f"costs {numbers}"]
    return lines + [f"use {step} {used} {times}" for step, used, times in uses]


def _read_entry(lines, at):
    """Returns the entry that begins in this line, and the line behind it; it can still be no entry."""
    name = _words_of_line(lines, at, "entry", 1)[0]
    workflow, position = _read_net(lines, at + 1)
    chances = read_chances(_text_of_line(lines, position, "chances"))
    costs = read_costs(_text_of_line(lines, position + 1, "costs"))
    position += 2
    uses = []
    while position < len(lines) and lines[position].startswith("use "):
        step, used, times = _words_of_line(lines, position, "use", 3)
        uses.append((step, used, read_integer(times)))
        position += 1
    return (name, workflow, chances, costs, tuple(uses)), position
