"""Texts of terms are read into trees."""

from caseflow.errors import ParseError
from caseflow.terms.trees import DO, LEAST_PARTS, LOOP, MOST_PARTS

# How many names stand before and behind the parts of each kind.
NAMES_AROUND = {"seq": (0, 0), "alt": (0, 0), "par": (1, 1), "loop": (1, 2)}


def tree_of_text(text, most_depth):
    """Returns the tree with this text, or raises ParseError; its names can still be none, or equal, or too many."""
    if not isinstance(text, str):
        raise ParseError("not a text")
    words = text.split(" ")
    tree, at = _read_tree(words, 0, most_depth)
    if at < len(words):
        raise ParseError("something stands behind the term")
    return tree


def _read_tree(words, at, most_depth):
    """Returns the tree that begins at this position, and the position behind it."""
    if most_depth == 0:
        raise ParseError("too many terms are nested")
    if not _has_parts(words, at):
        return (DO, (_word_at(words, at),), ()), at + 1
    kind = words[at]
    many_before, many_behind = NAMES_AROUND[kind]
    before = [_word_at(words, at + 1 + number) for number in range(many_before)]
    parts, position = _read_parts(words, at + 1 + many_before, most_depth)
    if kind == LOOP and len(parts) != 1:
        raise ParseError("a loop has one body")
    if kind != LOOP and not LEAST_PARTS <= len(parts) <= MOST_PARTS:
        raise ParseError("too few or too many parts")
    behind = [_word_at(words, position + number) for number in range(many_behind)]
    return (kind, tuple(before + behind), tuple(parts)), position + many_behind


def _has_parts(words, at):
    """Returns whether the word tells a kind; otherwise it is the name of a step, whatever its letters are."""
    kind = _word_at(words, at)
    return kind in NAMES_AROUND and _word_at(words, at + 1 + NAMES_AROUND[kind][0]) == "("


def _read_parts(words, at, most_depth):
    """Returns the trees of the parts in parentheses, and the position behind these."""
    parts = []
    position = at
    separator = ";"
    while separator == ";":
        part, position = _read_tree(words, position + 1, most_depth - 1)
        parts.append(part)
        separator = _word_at(words, position)
    if separator != ")":
        raise ParseError("a part is not followed by a sign")
    return parts, position + 1


def _word_at(words, at):
    return words[at] if at < len(words) else ""
