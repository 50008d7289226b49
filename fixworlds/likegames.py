"""Games about likeness, and how they are won."""

from fixworlds.errors import TooLarge
from fixworlds.rounds import all_rounds, first_round
from fixworlds.worlds import followers

MOST_STATES = 12


class LikenessGame:
    """The game about whether states of a world are like one another, at all pairs of states.

    States are parted in rounds. If a round parts two states, a step of the one leads to where,
    by the round before, no such step of the other one leads: player 1 takes it, and so comes to
    a pair that is parted in fewer rounds.
    """

    def __init__(self, world):
        if len(world.states) > MOST_STATES:
            raise TooLarge("the world has more than 12 states")
        self._world = world
        self._rounds = all_rounds(world)

    def winner(self, first, second):
        """The player who can win at a pair of states."""
        numbers = self._rounds[-1]
        return 0 if numbers[first] == numbers[second] else 1

    def attack(self, first, second):
        """What the winning player 1 chooses at a pair of states with the same facts: (side, label, end)."""
        numbers = self._rounds[first_round(self._rounds, first, second) - 1]
        sides = [(0, first, second), (1, second, first)]
        attacks = [
            (side, label, end)
            for side, state, other in sides
            for label in range(self._world.labels)
            for end in followers(self._world, state, label)
            if not self._answers(numbers, other, label, end)
        ]
        return attacks[0]

    def answer(self, first, second, side, label, end):
        """The end of the step by which the winning player 0 answers a step from the state of a side."""
        other = second if side == 0 else first
        return self._answers(self._rounds[-1], other, label, end)[0]

    def _answers(self, numbers, state, label, end):
        """The followers of a state that have the number of an end."""
        return [each for each in followers(self._world, state, label) if numbers[each] == numbers[end]]
