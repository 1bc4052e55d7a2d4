"""Workflows that are built by a pattern."""

from tests.samples import label

# A loop that gives a token more each time.
GROW = (4, (("a", (0,), (2,)), ("more", (2,), (2, 3)), ("stop", (2,), (1,)), ("use", (3,), (1,))))
# "b" puts a token on the end while "c" is still to be done, which puts a second one there.
TWICE = (4, (("a", (0,), (2,)), ("b", (2,), (1, 3)), ("c", (3,), (1,)), ("d", (2,), (1,))))
# "again" takes both tokens and gives them back.
TOGETHER = (4, (("a", (0,), (2, 3)), ("again", (2, 3), (2, 3)), ("both", (2, 3), (1,))))


def ladder(many):
    """Returns a workflow with so many choices of two steps, one after another."""
    steps = []
    for k in range(many):
        begin, end = 0 if k == 0 else k + 1, 1 if k == many - 1 else k + 2
        steps += [("l" + label(k), (begin,), (end,)), ("r" + label(k), (begin,), (end,))]
    return (many + 1, tuple(sorted(steps)))


def rhombs(many):
    """Returns a workflow with so many choices of two ways, each of two steps, one after another."""
    steps = []
    for k in range(many):
        begin, end = 0 if k == 0 else 3 * k + 1, 1 if k == many - 1 else 3 * k + 4
        for name, middle in (("l", 3 * k + 2), ("r", 3 * k + 3)):
            steps += [(name + label(k), (begin,), (middle,)), (name + "x" + label(k), (middle,), (end,))]
    return (3 * many + 1, tuple(sorted(steps)))


def branches(numbers, before):
    """Returns a sound workflow: so many steps, then a fork into branches, each with so many ways of two steps.

    The first order makes all choices before it goes on behind one of them.
    """
    many = len(numbers)
    places = 2 + many
    behind = []
    steps = []
    for k, number in enumerate(numbers):
        end = places + number
        for way in range(number):
            steps += [("w" + label(k) + label(way), (2 + k,), (places + way,))]
            steps += [("x" + label(k) + label(way), (places + way,), (end,))]
        behind.append(end)
        places = end + 1
    line = [0] + list(range(places, places + before))
    steps += [("b" + label(k), (line[k],), (line[k + 1],)) for k in range(before)]
    steps += [("fork", (line[-1],), tuple(range(2, 2 + many))), ("join", tuple(behind), (1,))]
    return (places + before, tuple(sorted(steps)))


def led_to(net, name, outputs):
    """Returns the net in which the step with this name has other outputs."""
    return (net[0], tuple((n, ins, outputs if n == name else outs) for n, ins, outs in net[1]))


EXACTLY_256 = branches((2, 2, 2, 2, 2, 3), 2)
EXACTLY_257 = branches((2, 2, 2, 2, 2, 3), 3)
# The first branch ends where the second one does, so join waits for ever.
UNSOUND = led_to(EXACTLY_257, "xaaaa", (13,))


def around(net):
    """Returns the workflow with a loop that can do this one again and again."""
    places, steps = net
    head, tail = places, places + 1
    moved = {0: head, 1: tail}
    found = [("zagain", (tail,), (head,)), ("zenter", (0,), (head,)), ("zleave", (tail,), (1,))]
    for name, inputs, outputs in steps:
        sides = [tuple(sorted(moved.get(place, place) for place in side)) for side in (inputs, outputs)]
        found.append((name, sides[0], sides[1]))
    return (places + 2, tuple(sorted(found)))


def rings(lengths):
    """Returns a sound workflow: a fork into branches, each with a loop of so many steps before it ends."""
    places = 2
    steps = []
    heads, ends = [], []
    for k, length in enumerate(lengths):
        ring = list(range(places, places + length))
        for at in range(length):
            steps.append(("r" + label(k) + label(at), (ring[at],), (ring[(at + 1) % length],)))
        heads.append(ring[0])
        ends.append(places + length)
        steps.append(("x" + label(k), (ring[0],), (ends[-1],)))
        places += length + 1
    steps += [("fork", (0,), tuple(heads)), ("join", tuple(ends), (1,))]
    return (places, tuple(sorted(steps)))


def shortcuts(many, skipped, before, longer):
    """Returns a sound workflow: so many steps, then a choice of forks into so many branches.

    Each fork skips the steps of some branches. The branches in `longer` have a
    step more for each time that they stand there. The first `many` places from 2
    on are those at the beginnings of the branches, the next ones those at the ends.
    """
    line = [0] + [2 + 2 * many + k for k in range(before)]
    sides = [((line[k],), (line[k + 1],)) for k in range(before)]
    for skips in skipped:
        sides.append(((line[-1],), tuple(sorted(2 + k + many * (k in skips) for k in range(many)))))
    places = 2 + 2 * many + before
    for k in range(many):
        at = 2 + k
        for _ in range(longer.count(k)):
            sides.append(((at,), (places,)))
            at, places = places, places + 1
        sides.append(((at,), (2 + many + k,)))
    sides.append((tuple(range(2 + many, 2 + 2 * many)), (1,)))
    return (places, tuple((label(k), ins, outs) for k, (ins, outs) in enumerate(sides)))


class Regions:
    """Builds a workflow of chains and parallel branches; all ends are joined by the last step.

    A region is a tuple: an integer is a chain of so many places, a tuple of
    regions are branches between the places before and behind them.
    """

    def __init__(self):
        self.places = 0
        self.steps = []

    def build(self, region):
        """Builds the region, and returns its first and its last place."""
        first = last = None
        branches = None
        for part in region:
            if isinstance(part, tuple):
                branches = [self.build(branch) for branch in part]
                self.steps.append(((last,), tuple(sorted(branch[0] for branch in branches))))
                continue
            for _ in range(part):
                place = self.places if self.places != 1 else 2
                self.places = place + 1
                if branches is not None:
                    self.steps.append((tuple(sorted(branch[1] for branch in branches)), (place,)))
                    branches = None
                elif last is not None:
                    self.steps.append(((last,), (place,)))
                first = place if first is None else first
                last = place
        return first, last


def regions(before, branches, left):
    """Returns a workflow: a chain of places, then regions side by side, then a step to the end.

    If `left` is true, this step leaves a token behind, so the workflow is not
    sound; all markings before are met on the way to this fault.
    """
    builder = Regions()
    last = builder.build((before,))[1]
    ends = [builder.build(branch) for branch in branches]
    builder.steps.append(((last,), tuple(sorted(first for first, _ in ends))))
    sides = tuple(sorted(end for _, end in ends))
    builder.steps.append((sides, (1, sides[0]) if left else (1,)))
    return (builder.places, tuple((label(k), ins, outs) for k, (ins, outs) in enumerate(builder.steps)))


# 3 * 5 * (2 + 2 * 3 * 3 * 3 * 5 + 1) = 4095 markings besides those of the chain before.
MANY_REGIONS = ((3,), (5,), (2, ((2,), (3,), (3,), (3,), (5,)), 1))
FAULT_BEHIND_4096 = regions(1, MANY_REGIONS, True)
FAULT_BEHIND_4097 = regions(2, MANY_REGIONS, True)
# The last marking is reached by longer runs than so many others.
END_BEHIND_4096 = regions(1, MANY_REGIONS, False)
END_BEHIND_4097 = regions(2, MANY_REGIONS, False)


def boxes(sizes, starts, before):
    """Returns a sound workflow: a chain of so many places, then a choice of forks into branches of these sizes.

    Each fork has in `starts` the positions at which the branches begin behind it.
    """
    line = [0] + list(range(2, before + 1))
    sides = [((one,), (other,)) for one, other in zip(line, line[1:])]
    places = before + 1
    branches = []
    for size in sizes:
        branches.append(list(range(places, places + size)))
        places += size
    for start in starts:
        sides.append(((line[-1],), tuple(branch[at] for branch, at in zip(branches, start))))
    for branch in branches:
        sides += [((one,), (other,)) for one, other in zip(branch, branch[1:])]
    sides.append((tuple(branch[-1] for branch in branches), (1,)))
    return (places, tuple((label(k), ins, outs) for k, (ins, outs) in enumerate(sides)))


def ones(many):
    """Returns the tuples of so many numbers, one of which is 1 while the others are 0."""
    return [tuple(int(at == k) for at in range(many)) for k in range(many)]


# 3 + (2 ** 5 - 1) * (2 * 2 * 3 - 1) * 3 * 4 + 1 markings: neither five nor three branches begin all at their first place.
MARKINGS_4096 = boxes(
    (2, 2, 2, 2, 2, 2, 2, 3, 3, 4), [one + other + (0, 0) for one in ones(5) for other in ones(3)], 3
)
# One more.
MARKINGS_4097 = END_BEHIND_4096
# 100 and 101 markings met by the first order lie on the loop.
LOOP_OF_100 = around(branches((2,) * 5, 4))
LOOP_OF_101 = around(branches((2,) * 5, 5))
# 4 + 2 * 2 + 3 * 4 + 4 * 8 + 3 * 16 = 100, each loop with any of the ones before put aside or not.
RINGS_OF_100 = rings((4, 2, 3, 4, 3))
RINGS_OF_101 = rings((5, 2, 3, 4, 3))
PAIRS_4096 = shortcuts(10, ((), (9,), (8,)), 1, (6, 9))
PAIRS_4097 = shortcuts(10, ((), (9,), (8,)), 2, (6, 9))


def late(numbers, back):
    """Returns a sound workflow with branches, in which the first order makes one choice after the other one is finished.

    In each branch a step comes before a choice between so many ways. If `back` is
    true, these lead back to the choice, where another step leads on. From the
    marking at which all choices can be made, the first order makes them together.
    """
    many = len(numbers)
    places = 2 + many
    ways = []
    for number in numbers:
        ways.append(list(range(places, places + number)))
        places += number
    begins, ends = list(range(places, places + many)), list(range(places + many, places + 2 * many))
    steps = [("fork", (0,), tuple(begins)), ("join", tuple(ends), (1,))]
    for k in range(many):
        steps.append(("enter" + label(k), (begins[k],), (2 + k,)))
        if back:
            steps.append(("leave" + label(k), (2 + k,), (ends[k],)))
        for at, place in enumerate(ways[k]):
            steps.append(("go" + label(k) + label(at), (2 + k,), (place,)))
            steps.append(("on" + label(k) + label(at), (place,), (2 + k if back else ends[k],)))
    return (places + 2 * many, tuple(sorted(steps)))


LATE_RUN = ("fork", "enteraa", "enterab", "enterac")
# From that marking on there are 1 + 5 + 5 * 6 + 5 * 6 * 6 + 6 * 6 + 6 + 1 = 259 markings, and with 5 and 5 of them 218.
LATE_259 = late((5, 6, 6), False)
LATE_218 = late((5, 5, 6), False)
# From there on 155 and 80 markings lie on loops, from the first marking on 15 and 12.
LATE_LOOPS_155 = late((4, 4, 4), True)
LATE_LOOPS_80 = late((1, 4, 4), True)
