"""Statements as rows of machines."""

from fixworlds.components import flood, turned
from fixworlds.joins import joined
from fixworlds.nets import Net, ranks_of
from fixworlds.parts import BINDERS, JOINS, STEPPERS
from fixworlds.priorities import worth


class RowWriter:
    """Writes a closed guarded statement as rows with priorities; the first row is its start.

    A state of the machine stands for a node to which a step leads, and for the greatest rank of
    the binders that have been unfolded since the last state. Only nodes from which binders on
    loops can be reached need states: all else is written out.
    """

    def __init__(self, statement):
        self._net = Net()
        top = self._net.node(statement, {})
        self._ranks = ranks_of(self._net.heads, self._net.inner, list(range(len(self._net.heads))))
        back = turned(dict(enumerate(self._net.inner)))
        self._looped = {}
        for node in self._ranks:
            if node not in self._looped:
                flood(node, back, self._looped)
        self._states = {}
        self._nodes = []
        self.priorities = []
        self._state(top, 0)
        self.rows = []
        while len(self.rows) < len(self._nodes):
            self.rows.append(self._row(self._nodes[len(self.rows)], 0))

    def _state(self, node, rank):
        """The number of the state for what is met at a node, behind binders with a greatest rank."""
        state = self._met(node, rank)
        if state not in self._states:
            self._states[state] = len(self._nodes)
            self._nodes.append(state[0])
            self.priorities.append(state[1])
        return self._states[state]

    def _met(self, node, rank):
        """The first node that is no binder, and the rank with which it is met.

        If both parts of an and or an or meet the same node, the player who has the choice takes
        the rank that is worth more for this player.
        """
        inner = self._net.inner[node]
        word = self._net.heads[node][0]
        if word in BINDERS:
            return self._met(inner[0], max(rank, self._ranks.get(node, 0)))
        if word in JOINS:
            left, right = [self._met(part, rank) for part in inner]
            if left[0] == right[0]:
                worse, better = sorted([left[1], right[1]], key=worth)
                return left[0], worse if word == "and" else better
        return node, rank

    def _row(self, node, rank):
        """The row of a node, behind binders with a greatest rank."""
        head = self._net.heads[node]
        inner = self._net.inner[node]
        if head[0] in JOINS:
            left, right = [self._row(part, rank) for part in inner]
            return joined(head[0], left, right)
        if head[0] in STEPPERS and inner[0] in self._looped:
            return head + (("var", self._state(inner[0], rank)),)
        if head[0] in STEPPERS:
            return head + (self._row(inner[0], rank),)
        if head[0] in BINDERS:
            return self._row(inner[0], max(rank, self._ranks.get(node, 0)))
        return head
