"""Nets that are made up in the same way in each run of the tests."""

from random import Random

from tests.samples import label


def random_net(chance, places, steps):
    """Returns a net with at most so many places and steps."""
    places = chance.randint(2, places)
    names = sorted(chance.sample(range(100), chance.randint(1, steps)))
    return (places, tuple(
        (label(name), _side(chance, places, at == 0), _side(chance, places, False))
        for at, name in enumerate(names)
    ))


def _side(chance, places, at_start):
    if at_start:
        return (0,)
    many = min(places, chance.choice((1, 1, 1, 2, 2, 3)))
    return tuple(sorted(chance.sample(range(places), many)))


def random_nets(many, places, steps):
    """Returns so many nets, the same ones for the same numbers."""
    chance = Random(1000 * places + steps)
    return [random_net(chance, places, steps) for _ in range(many)]
