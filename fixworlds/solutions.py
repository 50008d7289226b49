"""Where the variables of equations are true in a world."""

from fixworlds.boards import Board
from fixworlds.nets import Net


def solved(world, equations):
    """The list of the masks of the states of each variable of some equations (kind, body)."""
    net = Net()
    # The nodes are numbered as the equations: so an equation counts more than those behind it.
    roots = [net.new_node((kind, index)) for index, (kind, _) in enumerate(equations)]
    bound = dict(enumerate(roots))
    for root, (_, body) in zip(roots, equations):
        net.inner[root] = (net.node(body, bound),)
    truths = Board(world, net).truths()
    return [truths[root] for root in roots]
