"""Worlds built from a game about whether a statement is true anywhere."""

from fixworlds.errors import TooLarge
from fixworlds.rounds import folded_rows
from fixworlds.worlds import MOST_STATES, World


def model_of(arena, chosen):
    """A world and a state of it, by a game that player 0 wins; chosen has the moves to choose.

    The states are the places at which steps are taken, as the player comes to them.
    """
    order = [landing(arena, chosen, 0)]
    states = {order[0]: 0}
    steps = {}
    done = 0
    while done < len(order):
        place = arena.places[order[done]]
        for part, _, end in place.moves:
            at = landing(arena, chosen, end)
            if at not in states:
                states[at] = len(order)
                order.append(at)
            steps[(done, arena.closure.heads[part][1], states[at])] = True
        done += 1
    rows = [facts_of(arena, at) for at in order]
    small, small_steps, numbers = folded_rows(rows, sorted(steps))
    if len(small) > MOST_STATES:
        raise TooLarge("the world has more than 400 states")
    labels, facts = sizes_of(arena.closure.heads)
    return World(labels, facts, small, small_steps), numbers[0]


def landing(arena, chosen, at):
    """The place at which a step is taken, if the player goes on from one."""
    while arena.places[at].kind != "step":
        move = chosen[at] if at in chosen else arena.places[at].moves[0]
        at = move[2]
    return at


def facts_of(arena, at):
    """The tuple of the facts that the claim of a place has."""
    heads = [arena.closure.heads[each] for each in arena.places[at].claim]
    return tuple(sorted([head[1] for head in heads if head[0] == "has"]))


def sizes_of(heads):
    """How many labels and facts a world needs for statements with these heads."""
    labels = [1 + head[1] for head in heads if head[0] in ("some", "all")]
    facts = [1 + head[1] for head in heads if head[0] in ("has", "lacks")]
    return max(labels, default=1), max(facts, default=0)
