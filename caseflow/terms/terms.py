"""Terms: a small language for workflows."""

from caseflow.errors import InvalidTerm, ParseError, TooMany
from caseflow.nets.nets import MAX_PLACES, check_workflow
from caseflow.terms.reading import tree_of_text
from caseflow.terms.recognition import tree_of_workflow
from caseflow.terms.trees import (
    CHOICE, DO, LEAST_PARTS, LOOP, MOST_PARTS, PARALLEL, SEQUENCE, depth_of_tree, inner_places, is_possible,
    names_of_tree, normal_tree, text_of_tree, workflow_of_tree,
)


class Term:
    """A description of a workflow. Only the five classes of terms are called."""

    MAX_STEPS = 40
    MAX_DEPTH = 8

    def __init__(self, tree):
        if not is_possible(tree, Term.MAX_STEPS, Term.MAX_DEPTH):
            raise InvalidTerm("the names are not distinct names, or there are too many steps or terms within it")
        self._tree = tree

    @property
    def names(self):
        """The names of the steps, ascending."""
        return tuple(sorted(names_of_tree(self._tree)))

    @property
    def depth(self):
        """How many terms are nested within one another."""
        return depth_of_tree(self._tree)

    @property
    def places(self):
        """The number of places of the workflow."""
        return 2 + inner_places(self._tree)

    def walk(self):
        """Yields the names of the steps from left to right."""
        yield from names_of_tree(self._tree)

    def normalized(self):
        """Returns the normal term."""
        return _term_of(normal_tree(self._tree))

    def workflow(self):
        """Returns the workflow, or raises TooMany(30)."""
        if self.places > MAX_PLACES:
            raise TooMany(MAX_PLACES)
        return workflow_of_tree(normal_tree(self._tree))

    @classmethod
    def read(cls, text):
        """Returns the term with this text, or raises ParseError."""
        tree = tree_of_text(text, cls.MAX_DEPTH)
        if not is_possible(tree, cls.MAX_STEPS, cls.MAX_DEPTH):
            raise ParseError("not the text of a term that can be made")
        return _term_of(tree)

    def __len__(self):
        return len(names_of_tree(self._tree))

    def __str__(self):
        return str(text_of_tree(self._tree))

    def __eq__(self, other):
        if not isinstance(other, Term):
            return False
        # Different trees have different texts.
        return self._tree == other._tree


class Do(Term):
    """One step."""

    def __init__(self, name):
        Term.__init__(self, (DO, (name,), ()))


class Sequence(Term):
    """Terms one after another."""

    def __init__(self, *parts):
        Term.__init__(self, (SEQUENCE, (), _trees_of(parts)))


class Choice(Term):
    """One of several terms."""

    def __init__(self, *parts):
        Term.__init__(self, (CHOICE, (), _trees_of(parts)))


class Parallel(Term):
    """A step, terms side by side, and a step behind them."""

    def __init__(self, *parts, fork, join):
        Term.__init__(self, (PARALLEL, (fork, join), _trees_of(parts)))


class Loop(Term):
    """A step, a term that can be done again and again, and the steps that lead back and away."""

    def __init__(self, body, *, enter, again, leave):
        Term.__init__(self, (LOOP, (enter, again, leave), (_tree_of(body),)))


def workflow_term(workflow):
    """Returns the normal term whose workflow this is, but for the numbers of the places, or None."""
    check_workflow(workflow)
    tree = tree_of_workflow(workflow, Term.MAX_DEPTH)
    return None if tree is None else _term_of(tree)


def _tree_of(part):
    """Returns the tree of a term, or raises InvalidTerm."""
    if not isinstance(part, Term):
        raise InvalidTerm("a part is not a term")
    return part._tree


def _trees_of(parts):
    if not LEAST_PARTS <= len(parts) <= MOST_PARTS:
        raise InvalidTerm("too few or too many parts")
    return tuple([_tree_of(part) for part in parts])


def _term_of(tree):
    """Returns the term with this tree, also if it has more parts than a term can be made of."""
    kind, names, _ = tree
    if kind == DO:
        return Do(names[0])
    one, other = Do("a"), Do("b")
    if kind == SEQUENCE:
        term = Sequence(one, other)
    elif kind == CHOICE:
        term = Choice(one, other)
    elif kind == PARALLEL:
        term = Parallel(one, other, fork="c", join="d")
    else:
        term = Loop(one, enter="b", again="c", leave="d")
    term._tree = tree
    return term
