"""States that are like one another in a number of steps, and statements that tell of so many."""

from fixworlds.joins import all_of
from fixworlds.rounds import Rounds
from fixworlds.signs import fact_signs, step_signs


def like_in_steps(world, steps):
    """The tuple of the numbers of the classes of states that are like one another in some steps."""
    rounds = Rounds(world.states, world.steps)
    left = steps
    while left > 0 and rounds.advance():
        left -= 1
    return rounds.numbers()


def glimpse(world, state, labels, facts, steps):
    """A statement that is true, at any state of any world, exactly if it is like this one in steps."""
    here = [fact_signs(row, facts) for row in world.states]
    signs = [all_of(statements) for statements in here]
    for many in range(steps):
        # Of ends that are alike so far one is enough.
        numbers = like_in_steps(world, many)
        signs = [
            all_of(here[at] + step_signs(world, at, labels, signs, numbers))
            for at in range(len(world.states))
        ]
    return signs[state]
