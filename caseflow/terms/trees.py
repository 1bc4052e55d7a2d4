"""Terms as plain values.

A tree is a triple (kind, names, parts): `names` are those of its own steps, from
left to right, and `parts` are the trees of its parts. The kinds are DO, SEQUENCE,
CHOICE, PARALLEL (with the names of fork and join) and LOOP (with those of enter,
again and leave, and the body as its only part).
"""

from caseflow.basics import is_name

DO = "do"
SEQUENCE = "seq"
CHOICE = "alt"
PARALLEL = "par"
LOOP = "loop"
LEAST_PARTS = 2
MOST_PARTS = 8


def names_of_tree(tree):
    """Returns the names of all steps from left to right."""
    _, names, parts = tree
    return list(names[:1]) + [name for part in parts for name in names_of_tree(part)] + list(names[1:])


def depth_of_tree(tree):
    """Returns how many trees are nested within one another."""
    return 1 + max([0] + [depth_of_tree(part) for part in tree[2]])


def inner_places(tree):
    """Returns how many places its workflow has between the first and the last one."""
    return _own_places(tree) + sum([inner_places(part) for part in tree[2]])


def text_of_tree(tree):
    """Returns the text."""
    kind, names, parts = tree
    if kind == DO:
        return names[0]
    inside = " ; ".join([text_of_tree(part) for part in parts])
    return " ".join([kind] + list(names[:1]) + ["(", inside, ")"] + list(names[1:]))


def is_possible(tree, most_steps, most_depth):
    """Returns whether the names are distinct names, and there are not too many of them or of nested trees."""
    names = names_of_tree(tree)
    if not all([is_name(name) for name in names]) or len(set(names)) < len(names):
        return False
    return len(names) <= most_steps and depth_of_tree(tree) <= most_depth


def normal_tree(tree):
    """Returns the normal tree."""
    kind, names, parts = tree
    found = []
    for part in [normal_tree(part) for part in parts]:
        found.extend(part[2] if part[0] == kind and kind in (SEQUENCE, CHOICE) else [part])
    if kind in (CHOICE, PARALLEL):
        # All names are distinct, so the trees themselves are not compared.
        found = [part for _, part in sorted([(min(names_of_tree(part)), part) for part in found])]
    return (kind, names, tuple(found))


def workflow_of_tree(tree):
    """Returns the workflow of a normal tree."""
    return (2 + inner_places(tree), tuple(sorted(_steps_between(tree, 0, 1, 2))))


def _own_places(tree):
    """Returns how many places the tree itself creates."""
    kind, _, parts = tree
    return {DO: 0, SEQUENCE: len(parts) - 1, CHOICE: 0, PARALLEL: 2 * len(parts), LOOP: 2}[kind]


def _steps_between(tree, first, last, free):
    """Returns the steps of the tree between two places; new places get the numbers from `free` on."""
    ends = _ends_of_parts(tree, first, last, free)
    steps = _own_steps(tree, first, last, ends)
    begin = free + _own_places(tree)
    for part, (before, behind) in zip(tree[2], ends):
        steps.extend(_steps_between(part, before, behind, begin))
        begin = begin + inner_places(part)
    return steps


def _ends_of_parts(tree, first, last, free):
    """Returns for each part the pair of the places between which it is built."""
    kind, _, parts = tree
    created = list(range(free, free + _own_places(tree)))
    if kind == SEQUENCE:
        return list(zip([first] + created, created + [last]))
    if kind == CHOICE:
        return [(first, last) for _ in parts]
    return list(zip(created[::2], created[1::2]))


def _own_steps(tree, first, last, ends):
    kind, names, _ = tree
    if kind == DO:
        return [(names[0], (first,), (last,))]
    if kind == PARALLEL:
        fork = (names[0], (first,), tuple([before for before, _ in ends]))
        return [fork, (names[1], tuple([behind for _, behind in ends]), (last,))]
    if kind == LOOP:
        before, behind = ends[0]
        enter = (names[0], (first,), (before,))
        return [enter, (names[1], (behind,), (before,)), (names[2], (behind,), (last,))]
    return []
