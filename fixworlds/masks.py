"""Sets of states as integers: bit k tells of state k."""


def states_in(mask):
    """The ascending list of the states in a set."""
    states = []
    while mask:
        lowest = mask & -mask
        states.append(lowest.bit_length() - 1)
        mask ^= lowest
    return states


def mask_of(states):
    """The set of the states in a list."""
    mask = 0
    for state in states:
        mask |= 1 << state
    return mask
