"""Ways: where they lead, and statements about all that is there."""

from fixworlds.masks import led, mask_of, states_in, step_masks
from fixworlds.stages import truth
from fixworlds.statements import opposite


def some_way(way, statement):
    """A closed statement: the way leads to some state at which a closed statement is true."""
    return led_to(way, statement, 0)


def all_ways(way, statement):
    """A closed statement: the way leads to no state at which a closed statement is not true."""
    return opposite(led_to(way, opposite(statement), 0))


def led_to(way, goal, variable):
    """The statement that a way leads to where a goal is true; lesser variables are free in the goal."""
    word = way[0]
    if word == "step":
        return "some", way[1], goal
    if word == "test":
        return "and", way[1], goal
    if word == "then":
        return led_to(way[1], led_to(way[2], goal, variable), variable)
    if word == "either":
        return "or", led_to(way[1], goal, variable), led_to(way[2], goal, variable)
    onward = led_to(way[1], ("var", variable), variable + 1)
    return "least", variable, ("or", goal, onward)


def way_pairs(world, way):
    """The ascending list of all pairs of states such that a way leads from the first to the second."""
    return [(start, end) for start, mask in enumerate(ends_of_way(world, way)) for end in states_in(mask)]


def ends_of_way(world, way):
    """The list with the mask of the states to which a way leads from each state."""
    word = way[0]
    many = len(world.states)
    if word == "step":
        behind, _ = step_masks(many, world.steps, way[1])
        return behind
    if word == "test":
        true_at = mask_of(truth(world, way[1]))
        return [true_at & 1 << state for state in range(many)]
    first = ends_of_way(world, way[1])
    if word == "again":
        return again_and_again(first)
    second = ends_of_way(world, way[2])
    if word == "either":
        return [left | right for left, right in zip(first, second)]
    return [led(second, mask) for mask in first]


def again_and_again(rows):
    """The masks of the states that are reached from each state by rows, taken any number of times."""
    found = [mask | 1 << state for state, mask in enumerate(rows)]
    for between in range(len(rows)):
        for state in range(len(rows)):
            if found[state] >> between & 1:
                found[state] |= found[between]
    return found
