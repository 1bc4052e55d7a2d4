"""What a run chooses: for each cluster its steps, one after another.

All steps of a cluster depend on one another. In a sound workflow two runs belong
to the same case exactly if they choose the same: whatever cluster is handled
next, if it is enabled and has a step left, then this step can be done next.
"""

from caseflow.nets.moves import has_tokens, marking_behind
from caseflow.nets.runs import one_token
from caseflow.sound.handling import groups_of_steps


class Choices:
    """The steps of a run, arranged by clusters, to be done again in any order that is possible.

    A state is a pair: how many steps of each cluster are done, and the marking.
    """

    def __init__(self, sound, run):
        self._inputs = []
        self._chosen = []
        for _, inputs, steps in groups_of_steps(sound):
            by_name = {step[0]: step for _, step in steps}
            self._inputs.append(inputs)
            self._chosen.append([by_name[name] for name in run if name in by_name])
        self.begin = (tuple([0 for _ in self._chosen]), one_token(sound, 0))

    def is_ready(self, state, cluster):
        """Returns whether the cluster is enabled and has a step left."""
        done, marking = state
        return done[cluster] < len(self._chosen[cluster]) and has_tokens(marking, self._inputs[cluster])

    def ready(self, state):
        """Returns the numbers of all such clusters, ascending."""
        return [cluster for cluster in range(len(self._chosen)) if self.is_ready(state, cluster)]

    def go_on(self, state, cluster):
        """Returns the name of the next step of the cluster, and the state behind it."""
        done, marking = state
        step = self._chosen[cluster][done[cluster]]
        more = list(done)
        more[cluster] += 1
        return step[0], (tuple(more), marking_behind(marking, step))

    def names_chosen(self):
        """Returns for each cluster the names of its steps."""
        return [[step[0] for step in steps] for steps in self._chosen]


def run_by_order(sound, run, order):
    """Returns the run of the case in which the first cluster of the order that is ready is always next."""
    choices = Choices(sound, run)
    state = choices.begin
    names = []
    for _ in run:
        name, state = choices.go_on(state, _first_ready(choices, state, order))
        names.append(name)
    return tuple(names)


def run_by_plan(sound, complete, plan):
    """Returns the run of the case in which the cluster that the closed plan gives is always next."""
    choices = Choices(sound, complete)
    state = choices.begin
    names = []
    for _ in complete:
        name, state = choices.go_on(state, plan[state[1]])
        names.append(name)
    return tuple(names)


def normal_form(sound, run):
    """Returns the normal run of the case of a run."""
    return run_by_order(sound, run, tuple(range(len(groups_of_steps(sound)))))


def orders_of_case(sound, run):
    """Yields all runs of the case of a run, ascending, the normal run first."""
    if run == ():
        yield ()
        return
    choices = Choices(sound, run)
    names = []
    waiting = _ways_on(choices, 0, choices.begin)
    while waiting:
        many, name, state = waiting.pop()
        del names[many:]
        names.append(name)
        if len(names) == len(run):
            yield tuple(names)
        else:
            waiting.extend(_ways_on(choices, len(names), state))


def _first_ready(choices, state, order):
    for cluster in order:
        if choices.is_ready(state, cluster):
            return cluster
    return None


def _ways_on(choices, many, state):
    """Returns triples of the number of steps before, the next step and the state behind it, descending."""
    # What stands there last is taken first.
    ways = []
    for cluster in reversed(choices.ready(state)):
        name, after = choices.go_on(state, cluster)
        ways.append((many, name, after))
    return ways
