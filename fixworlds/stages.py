"""Where statements are true, and at which stage of a fixed point."""

from fixworlds.boards import Board
from fixworlds.masks import states_in
from fixworlds.nets import Net
from fixworlds.statements import ensure_closed


def truth(world, statement):
    """The list of the states at which a closed statement is true."""
    ensure_closed(statement)
    net = Net()
    top = net.node(statement, {})
    return states_in(Board(world, net).truths()[top])


def stages(world, statement):
    """The tuple of the stages of all states for a closed binder."""
    kind, variable, scope = statement
    net = Net()
    own = net.new_node(("given",))
    top = net.node(scope, {variable: own})
    board = Board(world, net)
    reached = 0 if kind == "least" else board.everywhere
    found = [0] * len(world.states)
    many = 0
    while True:
        many += 1
        board.give(own, reached)
        following = board.truths()[top]
        # The sets only grow, or only shrink: what differs has been reached or left just now.
        changed = states_in(following ^ reached)
        if not changed:
            return tuple(found)
        for state in changed:
            found[state] = many
        reached = following
