"""What a step does to a marking; nothing is checked here."""


def has_tokens(marking, places):
    """Returns whether each of the places has a token."""
    for place in places:
        if marking[place] == 0:
            return False
    return True


def marking_behind(marking, step):
    """Returns the marking to which the enabled step leads."""
    tokens = list(marking)
    for place in step[1]:
        tokens[place] -= 1
    for place in step[2]:
        tokens[place] += 1
    return tuple(tokens)
