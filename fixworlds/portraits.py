"""Statements that are true just at the states that are like one state."""

from fixworlds.errors import TooLarge
from fixworlds.joins import all_of, any_of
from fixworlds.likeness import classes, folded
from fixworlds.partings import Partings
from fixworlds.signs import fact_signs, step_signs
from fixworlds.statements import opposite
from fixworlds.worlds import reachable_part

MOST_STATES = 5


def portrait(world, state, labels, facts):
    """A statement that is true, at any state of any world, exactly if the state is like this one.

    Each class of states gets a sign: just one sign is true at each state of any world. The
    portrait tells the sign of the state, and that at all states which can be reached the sign
    is one of a class, with its facts, and with steps to signs as those of the class.
    """
    if len(world.states) > MOST_STATES:
        raise TooLarge("the world has more than 5 states")
    part, _ = reachable_part(world, [state])
    small = folded(part)
    signs = signs_of(small)
    places = list(range(len(small.states)))
    rows = [
        all_of([signs[at]] + fact_signs(small.states[at], facts)
               + step_signs(small, at, labels, signs, places))
        for at in places
    ]
    onward = [("all", label, ("var", 0)) for label in range(labels)]
    return ("and", signs[classes(part)[0]], ("most", 0, all_of([any_of(rows)] + onward)))


def signs_of(world):
    """A statement for each state of a folded world; in any world one is true at each state."""
    partings = Partings(world)
    signs = [("true",)] * len(world.states)
    waiting = [(list(range(len(world.states))), [])]
    while waiting:
        group, known = waiting.pop()
        if len(group) == 1:
            signs[group[0]] = all_of(known)
        else:
            statement = partings.statement(group[0], group[1])
            mask = partings.where(group[0], group[1])
            inside = [state for state in group if mask >> state & 1]
            outside = [state for state in group if not mask >> state & 1]
            waiting.append((inside, known + [statement]))
            waiting.append((outside, known + [opposite(statement)]))
    return signs
