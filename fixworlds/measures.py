"""Measures of the positions of a game: what player 0 can gain from there.

A visit of a position is a gain for player 0 if its priority is even, otherwise a loss; and one
visit counts more than all visits of lesser priorities in a play without a loop. The measure of
a position is the most that is gained at any time in a play from there, if player 1 does what
keeps it least. If it is bounded, player 1 wins; if not, player 0 does.

Measures begin at 0 and are raised in rounds. A round looks at what is still gained beyond the
measures, as far as to the first loss, and adds it. So a round goes over each move once, however
great the gains are.
"""

from heapq import heappop, heappush

from fixworlds.components import turned


class Measures:
    """The measures of the positions of a game; None stands for gains without a bound."""

    def __init__(self, owners, priorities, moves):
        self.owners = owners
        self.moves = moves
        self.back = turned(dict(enumerate(moves)))
        self.gains = gains_of(priorities)
        self.bounds = [0] * len(owners)
        self._raise_all()

    def _raise_all(self):
        while True:
            raised = [
                None if bound is None or more is None else bound + more
                for bound, more in zip(self.bounds, self._gained())
            ]
            if raised == self.bounds:
                return
            self.bounds = raised

    def held(self, at):
        """A move by which player 1 keeps the gains within the bounds, or -1 if there is none."""
        for end in self.moves[at]:
            if self.bounds[end] is not None and self._beyond(at, end) <= 0:
                return end
        return -1

    def _beyond(self, at, end):
        """What a move gains beyond the bound of a position, if the end keeps to its own bound."""
        return self.gains[at] + self.bounds[end] - self.bounds[at]

    def _gained(self):
        """What is gained beyond the bounds before the first loss; None if no loss comes.

        The least gains are found first. Player 1 takes the first move whose end is found,
        player 0 waits for all: his best one is known with the last end.
        """
        found = [None] * len(self.moves)
        best = [None] * len(self.moves)
        without_loss = [self._many_without_loss(at) for at in range(len(self.moves))]
        queue = [(0, at) for at, many in enumerate(without_loss) if self._stops(at, many)]
        while queue:
            gained, end = heappop(queue)
            if found[end] is None:
                found[end] = gained
                for at in self._leading_on(end, found):
                    self._look(at, gained + self._beyond(at, end), best, without_loss, queue)
        return found

    def _many_without_loss(self, at):
        """How many moves of a bounded position lose nothing; 0 of others, which do not matter."""
        if self.bounds[at] is None:
            return 0
        least = self.bounds[at] - self.gains[at]
        return len([
            end for end in self.moves[at] if self.bounds[end] is None or self.bounds[end] >= least
        ])

    def _stops(self, at, without_loss):
        """True if the gains from a bounded position end at once, by a loss or as plays end there.

        A play that ends at a position of player 1 is lost by him: this is a gain without a bound.
        """
        if self.bounds[at] is None:
            return False
        if self.owners[at] == 0:
            return without_loss == 0
        return without_loss < len(self.moves[at])

    def _leading_on(self, end, found):
        """The positions, not found yet, from which a move to the end loses nothing."""
        bound = self.bounds[end]
        return [
            at for at in self.back[end]
            if found[at] is None and self.bounds[at] is not None
            and self.gains[at] + bound >= self.bounds[at]
        ]

    def _look(self, at, gained, best, waiting, queue):
        """Takes it in that a move of a position gains so much; waiting counts those to come."""
        if self.owners[at] == 1:
            if best[at] is None or gained < best[at]:
                best[at] = gained
                heappush(queue, (gained, at))
            return
        if best[at] is None or gained > best[at]:
            best[at] = gained
        waiting[at] -= 1
        if waiting[at] == 0:
            heappush(queue, (best[at], at))


def gains_of(priorities):
    """The gain of a visit of each position: losses are below 0."""
    base = len(priorities) + 1
    gains = {}
    size = 1
    for priority in sorted(set(priorities)):
        gains[priority] = -size if priority & 1 else size
        size *= base
    return [gains[priority] for priority in priorities]


def holder_of(player, owners, priorities, moves):
    """The measures by whose bounds a player holds the positions that the player wins."""
    if player == 1:
        return Measures(owners, priorities, moves)
    # With the players exchanged the bounds are those of player 1's gains: player 0 holds them.
    exchanged = [1 - owner for owner in owners]
    return Measures(exchanged, [priority + 1 for priority in priorities], moves)


def winners_and_choice(owners, priorities, moves):
    """The winner of each position of a game, and a choice that is winning for both players."""
    holders = [holder_of(player, owners, priorities, moves) for player in (0, 1)]
    winners = winners_of(holders[1])
    choices = [-1] * len(winners)
    for at, winner in enumerate(winners):
        if winner == owners[at]:
            choices[at] = holders[winner].held(at)
    return winners, tuple(choices)


def winners_of(measures):
    """The tuple of the winners: player 1 where the gains of player 0 are bounded."""
    return tuple([0 if bound is None else 1 for bound in measures.bounds])
