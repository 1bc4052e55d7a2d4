"""Loops among numbered states; `behind` has for each state the states to which it leads."""


def states_in_postorder(behind):
    """Returns the states in an order in which each comes behind those to which it leads, but for loops."""
    found = []
    seen = [False for _ in behind]
    for begin in range(len(behind)):
        # A pair tells how many of the states behind a state were looked at; there is no recursion.
        waiting = [(begin, 0)]
        while waiting:
            state, at = waiting.pop()
            if at > 0 or not seen[state]:
                seen[state] = True
                if at < len(behind[state]):
                    waiting.append((state, at + 1))
                    waiting.append((behind[state][at], 0))
                else:
                    found.append(state)
    return found


def components(behind):
    """Returns a list of lists: two states stand in one of them if each leads to the other.

    Each list stands behind those to whose states its own lead.
    """
    before = [[] for _ in behind]
    for state, others in enumerate(behind):
        for other in others:
            before[other].append(state)
    found = []
    taken = [False for _ in behind]
    for begin in reversed(states_in_postorder(behind)):
        group = []
        waiting = [begin]
        while waiting:
            state = waiting.pop()
            if not taken[state]:
                taken[state] = True
                group.append(state)
                waiting.extend(before[state])
        if group != []:
            found.append(group)
    return list(reversed(found))


def states_on_loops(behind):
    """Returns the states, ascending, from which something leads back to them."""
    found = []
    for group in components(behind):
        if len(group) > 1 or group[0] in behind[group[0]]:
            found.extend(group)
    return sorted(found)
