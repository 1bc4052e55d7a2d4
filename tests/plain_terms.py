"""What the document says of terms, written down once more.

A description of a term is a tuple: ("do", name), ("seq", part, ..), ("alt", part, ..),
("par", fork, join, part, ..) or ("loop", enter, again, leave, body).
"""

from itertools import permutations

from caseflow.terms.terms import Choice, Do, Loop, Parallel, Sequence
from tests.samples import label


def made(told):
    """Returns the term of a description."""
    kind = told[0]
    if kind == "do":
        return Do(told[1])
    if kind == "seq":
        return Sequence(*[made(part) for part in told[1:]])
    if kind == "alt":
        return Choice(*[made(part) for part in told[1:]])
    if kind == "par":
        return Parallel(*[made(part) for part in told[3:]], fork=told[1], join=told[2])
    return Loop(made(told[4]), enter=told[1], again=told[2], leave=told[3])


def parts(told):
    return {"do": (), "seq": told[1:], "alt": told[1:], "par": told[3:], "loop": told[4:]}[told[0]]


def text(told):
    kind = told[0]
    if kind == "do":
        return told[1]
    inside = "( " + " ; ".join(text(part) for part in parts(told)) + " )"
    if kind == "par":
        return "par {} {} {}".format(told[1], inside, told[2])
    if kind == "loop":
        return "loop {} {} {} {}".format(told[1], inside, told[2], told[3])
    return kind + " " + inside


def walk(told):
    inside = [name for part in parts(told) for name in walk(part)]
    if told[0] == "do":
        return [told[1]]
    if told[0] == "par":
        return [told[1]] + inside + [told[2]]
    if told[0] == "loop":
        return [told[1]] + inside + [told[2], told[3]]
    return inside


def depth(told):
    return 1 + max([depth(part) for part in parts(told)], default=0)


def normal(told):
    kind = told[0]
    found = []
    for part in map(normal, parts(told)):
        found += parts(part) if kind in ("seq", "alt") and part[0] == kind else [part]
    if kind in ("alt", "par"):
        found.sort(key=lambda part: min(walk(part)))
    return told[:len(told) - len(parts(told))] + tuple(found)


class Builder:
    """Builds the workflow of a normal term as the document says it."""

    def __init__(self):
        self.many = 2
        self.steps = []

    def place(self):
        self.many += 1
        return self.many - 1

    def step(self, name, inputs, outputs):
        self.steps.append((name, tuple(sorted(inputs)), tuple(sorted(outputs))))

    def build(self, told, x, y):
        kind = told[0]
        if kind == "do":
            self.step(told[1], [x], [y])
        elif kind == "seq":
            line = [x] + [self.place() for _ in told[2:]] + [y]
            for at, part in enumerate(told[1:]):
                self.build(part, line[at], line[at + 1])
        elif kind == "alt":
            for part in told[1:]:
                self.build(part, x, y)
        elif kind == "par":
            pairs = [(self.place(), self.place()) for _ in told[3:]]
            self.step(told[1], [x], [before for before, _ in pairs])
            self.step(told[2], [behind for _, behind in pairs], [y])
            for part, (before, behind) in zip(told[3:], pairs):
                self.build(part, before, behind)
        else:
            u, v = self.place(), self.place()
            self.step(told[1], [x], [u])
            self.step(told[2], [v], [u])
            self.step(told[3], [v], [y])
            self.build(told[4], u, v)


def workflow(told):
    """Returns the workflow of a term, whatever its size."""
    builder = Builder()
    builder.build(normal(told), 0, 1)
    return (builder.many, tuple(sorted(builder.steps)))


def form(net):
    """Returns a value that is equal for nets that differ only in the numbers of the places from 2 on."""
    def around(place):
        return (tuple(s[0] for s in net[1] if place in s[1]), tuple(s[0] for s in net[1] if place in s[2]))

    return (around(0), around(1), tuple(sorted(around(place) for place in range(2, net[0]))))


def renumbered(chance, net):
    """Returns the net with other numbers of the places from 2 on."""
    numbers = [0, 1] + chance.sample(range(2, net[0]), net[0] - 2)
    return (net[0], tuple(
        (name, tuple(sorted(numbers[p] for p in ins)), tuple(sorted(numbers[p] for p in outs)))
        for name, ins, outs in net[1]
    ))


def split(chance, names, many):
    """Returns the names in so many groups, none of them empty."""
    names = chance.sample(names, len(names))
    cuts = sorted(chance.sample(range(1, len(names)), many - 1))
    return [names[a:b] for a, b in zip([0] + cuts, cuts + [len(names)])]


def drawn(chance, names, deep):
    """Returns the description of a term with exactly these names, or with a few less where they cannot be used."""
    many = len(names)
    kinds = ["seq", "alt", "par", "loop"] if many >= 4 else ["seq", "alt"]
    kind = chance.choice(kinds) if many >= 2 and deep > 1 else "do"
    if kind == "do":
        return ("do", names[0])
    if kind in ("seq", "alt"):
        groups = split(chance, names, chance.randint(2, min(8, many)))
        return (kind,) + tuple(drawn(chance, group, deep - 1) for group in groups)
    if kind == "par":
        fork, join, *rest = chance.sample(names, many)
        groups = split(chance, rest, chance.randint(2, min(8, many - 2)))
        return ("par", fork, join) + tuple(drawn(chance, group, deep - 1) for group in groups)
    enter, again, leave, *rest = chance.sample(names, many)
    return ("loop", enter, again, leave, drawn(chance, rest, deep - 1))


def drawn_terms(chance, many):
    """Returns so many descriptions of terms."""
    found = []
    while len(found) < many:
        size = chance.choice((1, 2, 3, 5, 8, 12, 20, 30, 40))
        names = chance.sample([label(k) for k in range(100)] + ["seq", "alt", "par", "loop"], size)
        found.append(drawn(chance, names, chance.randint(1, 8)))
    return found


def groupings(names):
    """Yields the ways to put the names into groups, which are in the order of their smallest names."""
    if not names:
        yield ()
        return
    first, rest = names[0], names[1:]
    for bits in range(2 ** len(rest)):
        inside = tuple(name for at, name in enumerate(rest) if bits >> at & 1)
        outside = tuple(name for name in rest if name not in inside)
        for others in groupings(outside):
            yield ((first,) + inside,) + others


def choices_of_each(lists):
    if not lists:
        return [()]
    return [(one,) + rest for one in lists[0] for rest in choices_of_each(lists[1:])]


def all_normal(names, known):
    """Returns the descriptions of all normal terms with exactly these names; `known` keeps them by names."""
    if names in known:
        return known[names]
    found = [("do", names[0])] if len(names) == 1 else []
    for groups in groupings(names):
        if len(groups) > 1:
            for kind in ("seq", "alt"):
                lists = {group: [t for t in all_normal(group, known) if t[0] != kind] for group in groups}
                for order in permutations(groups) if kind == "seq" else [groups]:
                    found += [(kind,) + some for some in choices_of_each([lists[group] for group in order])]
    for fork, join in permutations(names, 2):
        rest = tuple(name for name in names if name not in (fork, join))
        for groups in groupings(rest):
            if len(groups) > 1:
                found += [
                    ("par", fork, join) + some
                    for some in choices_of_each([all_normal(group, known) for group in groups])
                ]
    for three in permutations(names, 3):
        rest = tuple(name for name in names if name not in three)
        if rest:
            found += [("loop",) + three + (body,) for body in all_normal(rest, known)]
    known[names] = found
    return found
