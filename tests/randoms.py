"""Nets that are made up in the same way in each run of the tests."""

from random import Random

from tests import plain
from tests.samples import label


def random_net(chance, places, steps):
    """Returns a net with at most so many places and steps."""
    places = chance.randint(2, places)
    names = sorted(chance.sample(range(100), chance.randint(1, steps)))
    return (places, tuple(
        (label(name), _side(chance, places, at == 0), _side(chance, places, False))
        for at, name in enumerate(names)
    ))


def _side(chance, places, at_start):
    if at_start:
        return (0,)
    many = min(places, chance.choice((1, 1, 1, 2, 2, 3)))
    return tuple(sorted(chance.sample(range(places), many)))


def random_nets(many, places, steps):
    """Returns so many nets, the same ones for the same numbers."""
    chance = Random(1000 * places + steps)
    return [random_net(chance, places, steps) for _ in range(many)]


def random_workflow(chance, places, steps):
    """Returns a workflow with so many places and steps, sound or not."""
    while True:
        net = (places, _steps_of_groups(chance, places, steps))
        if plain.defects(net) == ():
            return net


def _steps_of_groups(chance, places, steps):
    """Returns steps whose inputs are equal or have nothing in common."""
    rest = chance.sample(range(2, places), places - 2)
    sides = [(0,)]
    while rest:
        many = chance.choice((1, 1, 1, 2))
        sides.append(tuple(sorted(rest[:many])))
        rest = rest[many:]
    inputs = sides + [chance.choice(sides) for _ in range(steps - len(sides))]
    found = []
    for at, side in enumerate(inputs):
        many = min(places - 1, chance.choice((1, 1, 1, 2)))
        found.append((label(at), side, tuple(sorted(chance.sample(range(1, places), many)))))
    return tuple(found)


def random_workflows(many, places, steps):
    """Returns so many workflows, the same ones for the same numbers."""
    chance = Random(77000 + 1000 * places + steps)
    return [random_workflow(chance, places, steps) for _ in range(many)]


class Builder:
    """Makes up a sound workflow out of sequences, choices, forks and loops."""

    def __init__(self, chance):
        self.chance = chance
        self.places = 2
        self.steps = []

    def place(self):
        self.places += 1
        return self.places - 1

    def step(self, inputs, outputs):
        self.steps.append((inputs, outputs))

    def build(self, first, last, depth):
        kind = self.chance.choice(("do", "sequence", "choice", "fork", "loop")) if depth else "do"
        if kind == "do":
            self.step((first,), (last,))
        if kind == "sequence":
            middle = self.place()
            self.build(first, middle, depth - 1)
            self.build(middle, last, depth - 1)
        if kind == "choice":
            self.build(first, last, depth - 1)
            self.build(first, last, depth - 1)
        if kind == "fork":
            before, behind = [self.place(), self.place()], [self.place(), self.place()]
            self.step((first,), tuple(before))
            self.step(tuple(behind), (last,))
            for one, other in zip(before, behind):
                self.build(one, other, depth - 1)
        if kind == "loop":
            head, tail = self.place(), self.place()
            self.step((first,), (head,))
            self.step((tail,), (head,))
            self.step((tail,), (last,))
            self.build(head, tail, depth - 1)

    def workflow(self):
        """Returns the workflow, with its places and names in any order."""
        numbers = [0, 1] + self.chance.sample(range(2, self.places), self.places - 2)
        names = self.chance.sample(range(len(self.steps)), len(self.steps))
        return (self.places, tuple(sorted(
            (label(name), tuple(sorted(numbers[p] for p in ins)), tuple(sorted(numbers[p] for p in outs)))
            for name, (ins, outs) in zip(names, self.steps)
        )))


def random_sound(many, depth):
    """Returns so many sound workflows, the same ones for the same numbers."""
    chance = Random(5000 + depth)
    found = []
    while len(found) < many:
        builder = Builder(chance)
        builder.build(0, 1, depth)
        if builder.places <= 30 and len(builder.steps) <= 40:
            found.append(builder.workflow())
    return found


def nearly_sound(many, depth):
    """Returns so many workflows, each a sound one in which one step leads to other places."""
    chance = Random(9000 + depth)
    found = []
    while len(found) < many:
        for places, steps in random_sound(40, depth):
            at = chance.randrange(len(steps))
            name, inputs, outputs = steps[at]
            other = tuple(sorted({chance.randrange(1, places), chance.choice(outputs)}))
            net = (places, steps[:at] + ((name, inputs, chance.choice((other, other[:1]))),) + steps[at + 1:])
            if plain.defects(net) == ():
                found.append(net)
    return found[:many]


def balanced_net(chance, places, steps, weights):
    """Returns a net of so many steps, each of which keeps these weights (at least 1, equal for places 0 and 1)."""
    found = []
    while len(found) < steps:
        inputs = chance.sample(range(places), chance.randint(1, min(4, places)))
        rest = sum(weights[place] for place in inputs)
        outputs = []
        for place in chance.sample(range(places), places):
            if weights[place] <= rest:
                outputs.append(place)
                rest -= weights[place]
        if rest == 0:
            found.append((label(len(found)), tuple(sorted(inputs)), tuple(sorted(outputs))))
    return (places, tuple(found))


def balanced_nets(many, places, steps, most):
    """Returns so many pairs of weights of at most `most` and a net that keeps them."""
    chance = Random(31 * places + steps + most)
    found = []
    for _ in range(many):
        weights = [chance.randint(1, most) for _ in range(places)]
        weights[1] = weights[0]
        found.append((tuple(weights), balanced_net(chance, places, steps, weights)))
    return found
