"""Small workflows, sound ones and others, on which functions are compared with plain ones."""

from random import Random

from tests import plain, plain_algebra
from tests.built import GROW, TOGETHER, TWICE, branches, ladder, led_to, rhombs
from tests.randoms import nearly_sound, random_sound, random_workflows
from tests.samples import A, B, C, D, F, L, P, chain, choices

# Two loops, one within the other, and a third one beside them.
LOOPS = (8, (("a", (0,), (2, 3)), ("b", (2,), (4,)), ("c", (4,), (2,)), ("d", (4,), (4,)), ("e", (3,), (3,)),
             ("f", (6, 7), (5,)), ("g", (5,), (2, 3)), ("h", (5,), (1,)), ("i", (4,), (6,)), ("j", (3,), (7,))))
# Some cases never come to the fork, others come to it again.
SPLIT = (7, (("a", (0,), (2,)), ("b", (2,), (1,)), ("c", (2,), (3, 4)), ("d", (3,), (5,)), ("e", (3,), (5,)),
             ("f", (4,), (6,)), ("g", (5, 6), (1,)), ("h", (5, 6), (2,))))
# Two steps with equal inputs and equal outputs.
TWINS = (3, (("a", (0,), (2,)), ("b", (0,), (2,)), ("c", (2,), (1,)), ("d", (2,), (1,)), ("e", (2,), (2,))))
# A branch is finished in one step or in two, while the other one is done.
LATE = (7, (("fork", (0,), (2, 3)), ("late", (2,), (4,)), ("later", (4,), (5,)), ("now", (2,), (5,)),
            ("other", (3,), (6,)), ("ready", (5, 6), (1,))))


def _few_runs(workflow):
    """Returns whether all runs of up to eight steps are easily listed."""
    many = {plain.first(workflow): 1}
    for _ in range(8):
        following = {}
        for marking, ways in many.items():
            for step in plain.enabled(workflow, marking):
                after = plain.done(marking, step)
                following[after] = following.get(after, 0) + ways
        many = following
        if sum(many.values()) > 1500:
            return False
    return True


_MADE_UP = random_workflows(500, 4, 5) + random_workflows(500, 5, 6) + random_workflows(150, 6, 7)
_BUILT = [workflow for workflow in random_sound(60, 2) + random_sound(60, 3) if workflow[0] <= 12]

SOUND = (A, C, D, F, P, LOOPS, SPLIT, TWINS, LATE, TOGETHER, ladder(3), rhombs(2), branches((2, 1), 1), chain(3),
         choices(3)) + tuple(workflow for workflow in _MADE_UP + _BUILT if plain_algebra.is_sound(workflow))
FEW_RUNS = tuple(workflow for workflow in SOUND if _few_runs(workflow))
NOT_SOUND = (B, L, GROW, TWICE, led_to(F, "check", (4, 5))) + tuple(
    workflow for workflow in _MADE_UP[::3] + nearly_sound(80, 3) if not plain_algebra.is_sound(workflow)
)


def some(values, many, seed):
    """Returns so many of the values, the same ones each time."""
    values = list(values)
    return Random(seed).sample(values, min(many, len(values)))


def small(values, places):
    """Returns the workflows with at most so many places."""
    return tuple(workflow for workflow in values if workflow[0] <= places)
