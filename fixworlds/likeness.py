"""States that are like one another, statements that part others, and folded worlds."""

from fixworlds.doers import doers_of
from fixworlds.masks import states_in
from fixworlds.partings import Partings
from fixworlds.rounds import folded_rows
from fixworlds.worlds import World


def classes(world):
    """The tuple of the numbers of the classes of all states."""
    _, _, numbers = folded_rows(world.states, world.steps)
    return numbers


def parting(world, first, second):
    """A statement that is true at the first state and not at the second, or None if there is none."""
    return Partings(world).statement(first, second)


def can_do(world):
    """The ascending list of all pairs of states of which the second can do all that the first can."""
    return [
        (state, doer) for state, mask in enumerate(doers_of(world)) for doer in states_in(mask)
    ]


def folded(world):
    """The world whose states are the classes of a world."""
    rows, steps, _ = folded_rows(world.states, world.steps)
    return World(world.labels, world.facts, rows, steps)
