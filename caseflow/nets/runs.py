"""Markings of nets, and runs from one to another."""

from caseflow.basics import is_integer_within
from caseflow.errors import InvalidMarking, InvalidNumber, InvalidRun, TooMany
from caseflow.nets.clusters import list_clusters
from caseflow.nets.lookahead import Lookahead
from caseflow.nets.moves import has_tokens, marking_behind
from caseflow.nets.nets import check_net, check_workflow

MAX_MARKINGS = 4096
MAX_MET = 256
MAX_TOKENS = 10 ** 9
MAX_LENGTH = 200


def is_marking(net, value):
    """Returns whether the value is a marking of the net."""
    check_net(net)
    return fits_net(net, value)


def first_marking(net):
    """Returns the marking with one token on the start."""
    check_net(net)
    return one_token(net, 0)


def last_marking(net):
    """Returns the marking with one token on the end."""
    check_net(net)
    return one_token(net, 1)


def enabled_steps(net, marking):
    """Returns the names of the enabled steps, ascending."""
    check_net(net)
    check_marking(net, marking)
    return tuple([step[0] for step in list_enabled(net, marking)])


def enabled_clusters(workflow, marking):
    """Returns the numbers of the enabled clusters, ascending."""
    check_workflow(workflow)
    check_marking(workflow, marking)
    found = list_clusters(workflow)
    return tuple([at for at, cluster in enumerate(found) if has_tokens(marking, cluster[0])])


def is_run(net, value):
    """Returns whether the value is a run from the first marking."""
    check_net(net)
    return end_of_run(net, value) is not None


def is_complete(workflow, value):
    """Returns whether the value is a run from the first marking to the last one."""
    check_workflow(workflow)
    return end_of_run(workflow, value) == one_token(workflow, 1)


def marking_after(net, run, *, marking=None):
    """Returns the marking that the run leads to."""
    check_net(net)
    begin = _beginning(net, marking)
    return follow_run(net, run, begin)


def markings_on(net, run, *, marking=None):
    """Returns all markings from the beginning of the run to its end."""
    check_net(net)
    begin = _beginning(net, marking)
    return pass_run(net, run, begin)


def all_runs(net, *, length):
    """Yields all runs with this number of steps, ascending."""
    check_net(net)
    if not is_integer_within(length, 0, MAX_LENGTH):
        raise InvalidNumber(length)
    lookahead = Lookahead(net)
    waiting = [((), one_token(net, 0))]
    while waiting:
        run, marking = waiting.pop()
        if len(run) == length:
            yield run
        elif lookahead.reaches(marking, length - len(run)):
            # What is put there last is taken first, so the smallest name comes last.
            for step in reversed(list_enabled(net, marking)):
                waiting.append((run + (step[0],), marking_behind(marking, step)))


def reachable_markings(net, *, limit=MAX_MARKINGS):
    """Returns all markings to which runs lead, ascending."""
    check_net(net)
    if not is_integer_within(limit, 1, MAX_MARKINGS):
        raise InvalidNumber(limit)
    begin = one_token(net, 0)
    found = {begin: True}
    waiting = [begin]
    while waiting and len(found) <= limit:
        marking = waiting.pop()
        for step in list_enabled(net, marking):
            after = marking_behind(marking, step)
            if after not in found:
                found[after] = True
                waiting.append(after)
    if len(found) > limit:
        raise TooMany(limit)
    return tuple(sorted(found))


def fits_net(net, value):
    """Returns whether the value is a marking of what is known to be a net."""
    if not isinstance(value, tuple) or len(value) != net[0]:
        return False
    return all([is_integer_within(tokens, 0, MAX_TOKENS) for tokens in value])


def check_marking(net, marking):
    """Raises InvalidMarking if the value is not a marking; `net` is a net."""
    if not fits_net(net, marking):
        raise InvalidMarking("not a marking of the net")


def one_token(net, place):
    """Returns the marking with one token on this place and no others."""
    return tuple([1 if at == place else 0 for at in range(net[0])])


def list_enabled(net, marking):
    """Returns the enabled steps of what is known to be a net, in order."""
    return [step for step in net[1] if has_tokens(marking, step[1])]


def follow_run(net, run, begin):
    """Returns the marking behind a run from `begin`, or raises InvalidRun."""
    if not isinstance(run, tuple):
        raise InvalidRun(0)
    many, marking = _follow_far(net, run, begin)
    if many < len(run):
        raise InvalidRun(many)
    return marking


def check_complete(workflow, complete):
    """Raises InvalidRun if the value is not a complete run."""
    if follow_run(workflow, complete, one_token(workflow, 0)) != one_token(workflow, 1):
        raise InvalidRun(len(complete))


def end_of_run(net, value):
    """Returns the marking behind a run from the first marking, or None."""
    if not isinstance(value, tuple):
        return None
    many, marking = _follow_far(net, value, one_token(net, 0))
    return marking if many == len(value) else None


def pass_run(net, run, begin):
    """Returns all markings of a run from `begin` to its end, or raises InvalidRun."""
    follow_run(net, run, begin)
    return tuple(markings_along(net, run, begin))


def markings_along(net, names, begin):
    """Yields the markings on the way, up to the first step that cannot be done."""
    steps = {step[0]: step for step in net[1]}
    marking = begin
    yield marking
    for name in names:
        if not isinstance(name, str) or name not in steps:
            return
        step = steps[name]
        if not has_tokens(marking, step[1]):
            return
        marking = marking_behind(marking, step)
        if max(marking) > MAX_TOKENS:
            return
        yield marking


def _follow_far(net, names, begin):
    """Returns how many of the steps can be done, and the marking behind them."""
    many = -1
    marking = begin
    for reached in markings_along(net, names, begin):
        many += 1
        marking = reached
    return many, marking


def _beginning(net, marking):
    if marking is None:
        return one_token(net, 0)
    check_marking(net, marking)
    return marking
