"""The closed net, and the effects of its steps; nothing is checked here."""

# The closing step is no step of the net, so it has no name that a step can have.
CLOSING = ("", (1,), (0,))


def closed_steps(net):
    """Returns the steps of the net and, behind them, the closing step."""
    return net[1] + (CLOSING,)


def effect_of_step(places, step):
    """Returns for each place what the step adds to it: 1, 0 or -1."""
    _, inputs, outputs = step
    return tuple([int(place in outputs) - int(place in inputs) for place in range(places)])


def effects_of_steps(net):
    """Returns the effects of all steps of the closed net, a row for each step."""
    return [effect_of_step(net[0], step) for step in closed_steps(net)]


def effects_at_places(net):
    """Returns the same effects, a row for each place."""
    effects = effects_of_steps(net)
    return [tuple([effect[place] for effect in effects]) for place in range(net[0])]
