"""Where the statements of a net are true in a world.

A position is a node of the net and a state of the world. Two players go from position to
position as the statements tell: player 0 wants the node to be true at the state. A loop through
binders is won by player 0 if the one that counts most is a greatest fixed point. Player 0 can
win exactly where the statement is true, and a node can be handled at all states at once: a set
of positions is a list with a mask of states for each node.

Taking least and greatest fixed points within one another instead would double the work with
each change between them.
"""

from fixworlds.masks import led, mask_of, states_in, step_masks
from fixworlds.nets import ranks_of
from fixworlds.parts import JOINS, STEPPERS

CHOOSERS = {"or": 0, "some": 0, "and": 1, "all": 1}


class Board:
    """A world and a net, with all nodes of the net at all states of the world as positions."""

    def __init__(self, world, net):
        self.net = net
        self.world = world
        self.everywhere = (1 << len(world.states)) - 1
        self.around = [[] for _ in net.heads]
        for node, inner in enumerate(net.inner):
            for part in inner:
                self.around[part].append(node)
        ranks = ranks_of(net.heads, net.inner, list(range(len(net.heads))))
        self.by_rank = [[] for _ in range(max(ranks.values(), default=-1) + 1)]
        for node, rank in ranks.items():
            self.by_rank[rank].append(node)
        self.behind = {}
        self.before = {}
        for head in net.heads:
            if head[0] in STEPPERS and head[1] not in self.behind:
                behind, before = step_masks(len(world.states), world.steps, head[1])
                self.behind[head[1]] = behind
                self.before[head[1]] = before
        nodes = range(len(net.heads))
        self.won_at_once = [self._won_at_once(node) for node in nodes]
        self.lost_at_once = [self._lost_at_once(node) for node in nodes]

    def _won_at_once(self, node):
        """The states at which a play ends at a node, and player 0 wins."""
        word = self.net.heads[node][0]
        if word == "true":
            return self.everywhere
        if word == "has":
            return self._having(node)
        if word == "lacks":
            return self.everywhere & ~self._having(node)
        return self._without_steps(node) if word == "all" else 0

    def _lost_at_once(self, node):
        """The states at which a play ends at a node, and player 1 wins."""
        word = self.net.heads[node][0]
        if word in ("true", "false", "has", "lacks"):
            return self.everywhere & ~self.won_at_once[node]
        return self._without_steps(node) if word == "some" else 0

    def _having(self, node):
        fact = self.net.heads[node][1]
        return mask_of([state for state, row in enumerate(self.world.states) if fact in row])

    def _without_steps(self, node):
        label = self.net.heads[node][1]
        return mask_of([state for state, ends in enumerate(self.behind[label]) if not ends])

    def give(self, node, mask):
        """Tells where a node is true that has nothing in it."""
        self.won_at_once[node] = mask
        self.lost_at_once[node] = self.everywhere & ~mask

    def truths(self):
        """For each node the mask of the states at which it is true."""
        whole = [self.everywhere] * len(self.net.heads)
        won = self._drawn(0, whole, self.won_at_once)
        if not self.by_rank:
            return won
        lost = self._drawn(1, whole, self.lost_at_once)
        region = without(without(whole, won), lost)
        return joined(won, self._won(region, len(self.by_rank) - 1))

    def _won(self, region, rank):
        """Where player 0 wins in a region in which no play ends and no binder has a greater rank.

        The player whom the greatest rank favours wins all, unless the other one wins some
        positions without it. These, and what is drawn to them, are taken out, till none are left.
        """
        found = [0] * len(region)
        if not any(region):
            return found
        player = rank & 1
        while True:
            targets = [0] * len(region)
            for node in self.by_rank[rank]:
                targets[node] = region[node]
            rest = without(region, self._drawn(player, region, targets))
            lost = self._won(rest, rank - 1)
            if player == 0:
                lost = without(rest, lost)
            if not any(lost):
                return joined(found, region) if player == 0 else found
            gone = self._drawn(1 - player, region, lost)
            if player == 1:
                found = joined(found, gone)
            region = without(region, gone)

    def _drawn(self, player, region, targets):
        """The positions from which a player can lead each play in a region to the targets."""
        got = list(targets)
        fresh = list(targets)
        waiting = [node for node, mask in enumerate(targets) if mask]
        while waiting:
            node = waiting.pop()
            news = fresh[node]
            fresh[node] = 0
            for outer in self.around[node]:
                more = self._led(player, outer, node, news, region, got)
                if more and not fresh[outer]:
                    waiting.append(outer)
                fresh[outer] |= more
                got[outer] |= more
        return got

    def _led(self, player, outer, node, news, region, got):
        """The positions at an outer node that are drawn as well by news at a node in it."""
        head = self.net.heads[outer]
        left = region[outer] & ~got[outer]
        if head[0] in STEPPERS:
            return self._led_by_step(player, head, left, news, region[node] & ~got[node])
        left &= news
        if head[0] in JOINS and CHOOSERS[head[0]] != player:
            for part in self.net.inner[outer]:
                left &= ~(region[part] & ~got[part])
        return left

    def _led_by_step(self, player, head, left, news, escapes):
        """The states among those left with a step to the news, or with no step to an escape."""
        before = led(self.before[head[1]], news) & left
        if CHOOSERS[head[0]] == player:
            return before
        behind = self.behind[head[1]]
        return mask_of([state for state in states_in(before) if not behind[state] & escapes])


def without(positions, others):
    """The positions that are not among others."""
    return [mask & ~other for mask, other in zip(positions, others)]


def joined(positions, others):
    """The positions of both."""
    return [mask | other for mask, other in zip(positions, others)]
