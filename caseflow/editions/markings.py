"""Whether a marking occurs, and papers that show it."""

from caseflow.algebra.occurring import Witnesses, can_occur
from caseflow.algebra.rows import product_sum
from caseflow.algebra.siphons import is_trap
from caseflow.algebra.weightings import is_weighting
from caseflow.nets.runs import check_marking, end_of_run, one_token
from caseflow.nets.searches import run_between
from caseflow.sound.structure import check_sound


def occurs(sound, marking):
    """Returns whether the marking is reachable."""
    _check(sound, marking)
    return can_occur(sound, marking)


def occurrence_paper(sound, marking):
    """Returns an occurrence paper for the marking."""
    _check(sound, marking)
    witnesses = Witnesses(sound)
    weighting = witnesses.weighting_against(marking)
    if weighting is not None:
        return ("weighting", weighting)
    trap = witnesses.trap_against(marking)
    if trap != ():
        return ("trap", trap)
    return ("run", run_between(sound, one_token(sound, 0), marking))


def is_occurrence_paper(sound, marking, value):
    """Returns whether the value is an occurrence paper for the marking."""
    _check(sound, marking)
    if not isinstance(value, tuple) or len(value) != 2:
        return False
    kind, content = value
    if kind == "run":
        return end_of_run(sound, content) == marking
    if kind == "weighting":
        # The sum of the first marking is the weight of the start.
        return is_weighting(sound, content) and product_sum(content, marking) != content[0]
    if kind != "trap" or not is_trap(sound, content, closed=True):
        return False
    return content != () and sum([marking[place] for place in content]) == 0


def _check(sound, marking):
    check_sound(sound)
    check_marking(sound, marking)
