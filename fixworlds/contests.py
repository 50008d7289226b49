"""Games of arenas: who wins them and how.

Measures take many rounds where one player keeps gaining a little, as happens in arenas. These
games are solved part by part instead, which is fast where few priorities change the winner.
"""

from fixworlds.components import turned


class Contest:
    """A game, its winners, and the moves that the winners choose where they have to choose."""

    def __init__(self, owners, priorities, moves):
        self._owners = owners
        self._priorities = priorities
        self._moves = moves
        self._back = turned(dict(enumerate(moves)))
        self.winners = [-1] * len(owners)
        self.chosen = [-1] * len(owners)
        region = {at: True for at in range(len(owners))}
        for player in (0, 1):
            ended = [at for at in region if not moves[at] and owners[at] != player]
            region = self._take_out(player, ended, region)
        self._solve(region)

    def _take_out(self, player, targets, region):
        """What is left of a region without what a player draws to targets and so wins."""
        won = self._drawn(player, targets, region)
        for at in won:
            self.winners[at] = player
        return {at: True for at in region if at not in won}

    def _drawn(self, player, targets, region):
        """A dict with all from which a player can lead plays in a region to targets."""
        got = {at: True for at in targets}
        waiting = list(targets)
        left = {}
        while waiting:
            end = waiting.pop()
            for at in self._back[end]:
                if at not in region or at in got:
                    continue
                if self._owners[at] == player:
                    self.chosen[at] = end
                else:
                    if at not in left:
                        left[at] = len([each for each in self._moves[at] if each in region])
                    left[at] -= 1
                if self._owners[at] == player or left[at] == 0:
                    got[at] = True
                    waiting.append(at)
        return got

    def _solve(self, region):
        """Finds who wins where in a region in which no play ends.

        The player whom the greatest priority favours wins all, unless the other one wins some
        without it. This, and what is drawn to it, is taken out, till nothing is left.
        """
        while region:
            top = max([self._priorities[at] for at in region])
            player = top & 1
            targets = [at for at in region if self._priorities[at] == top]
            drawn = self._drawn(player, targets, region)
            self._solve({at: True for at in region if at not in drawn})
            lost = [at for at in region if at not in drawn and self.winners[at] != player]
            if not lost:
                self._take_all(player, targets, region)
                return
            region = self._take_out(1 - player, lost, region)

    def _take_all(self, player, targets, region):
        """Gives a whole region to a player, who may make any move in it at the targets."""
        for at in targets:
            if self._owners[at] == player:
                self.chosen[at] = [end for end in self._moves[at] if end in region][0]
        for at in region:
            self.winners[at] = player
