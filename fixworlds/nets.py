"""Statements as nets of nodes, in which a variable is the node of its binder.

Parts that are equal, and whose variables belong to the same binders, are one node: a statement
that was made by unfolding has far fewer nodes than parts.
"""

from fixworlds.components import components, has_loop
from fixworlds.parts import BINDERS
from fixworlds.shelves import Shelf


class Net:
    """Nodes: a head, as of a part, for each one, and the nodes in it.

    A binder has a lesser number than binders in its scope that speak of it.
    """

    def __init__(self):
        self.heads = []
        self.inner = []
        self._shelf = Shelf()
        self._known = {}
        self._waiting = []

    def new_node(self, head):
        """The number of a new node with nothing in it yet."""
        self.heads.append(head)
        self.inner.append(())
        return len(self.heads) - 1

    def node(self, statement, bound):
        """The node of a statement; bound has the nodes of its free variables."""
        top = self._part_node(self._shelf.numbered(statement), bound)
        while self._waiting:
            node, number, known = self._waiting.pop()
            head = self.heads[node]
            if head[0] in BINDERS:
                known[head[1]] = node
            inner = [self._part_node(part, known) for part in self._shelf.inner[number]]
            self.inner[node] = tuple(inner)
        return top

    def _part_node(self, number, bound):
        head = self._shelf.heads[number]
        if head[0] == "var":
            return bound[head[1]]
        free = self._shelf.free[number]
        key = (number, tuple([bound[variable] for variable in free]))
        if key not in self._known:
            node = self.new_node(head)
            self._known[key] = node
            self._waiting.append((node, number, {variable: bound[variable] for variable in free}))
        return self._known[key]


def ranks_of(heads, inner, order):
    """For each binder on a loop of nodes how much it counts there.

    Of all binders that are met again and again, the one that is least in the order decides. It
    has the greatest rank of them. The ranks of greatest fixed points are even, those of least
    ones odd. A rank is greater than another one only if there are loops on which this matters.
    """
    ways = dict(enumerate(inner))
    levels = []
    waiting = [list(ways)]
    while waiting:
        part = {node: ways[node] for node in waiting.pop()}
        for members in components(part):
            if has_loop(members, part):
                leading = leading_binders(members, heads, order)
                levels.append((leading, members))
                waiting.append([node for node in members if node not in leading])
    ranks = {}
    # Behind each level come those of the loops that are left without its leading binders.
    for leading, members in reversed(levels):
        odd = 1 if heads[leading[0]][0] == "least" else 0
        rank = max([ranks[node] for node in members if node in ranks], default=odd)
        for node in leading:
            ranks[node] = rank + ((rank + odd) & 1)
    return ranks


def leading_binders(members, heads, order):
    """The binders of one kind that are before all others of some nodes in the order."""
    binders = [node for node in members if heads[node][0] in BINDERS]
    binders = sorted(binders, key=lambda binder: order[binder])
    leading = [node for node in binders if heads[node][0] == heads[binders[0]][0]]
    others = [order[node] for node in binders if heads[node][0] != heads[binders[0]][0]]
    return [node for node in leading if not others or order[node] < min(others)]
