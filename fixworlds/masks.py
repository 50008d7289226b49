"""Sets of states as integers: bit k tells of state k."""


def states_in(mask):
    """The ascending list of the states in a set."""
    states = []
    while mask:
        lowest = mask & -mask
        states.append(lowest.bit_length() - 1)
        mask ^= lowest
    return states


def mask_of(states):
    """The set of the states in a list."""
    mask = 0
    for state in states:
        mask |= 1 << state
    return mask


def led(rows, mask):
    """The union of the rows of the states in a set; rows has a mask for each state."""
    union = 0
    for state in states_in(mask):
        union |= rows[state]
    return union


def step_masks(many, steps, label):
    """The masks of the states behind and before each of so many states, by steps with a label."""
    behind = [0] * many
    before = [0] * many
    for start, other, end in steps:
        if other == label:
            behind[start] |= 1 << end
            before[end] |= 1 << start
    return behind, before
