"""Debates about a statement in a world, and how they are won."""

from fixworlds.boards import CHOOSERS
from fixworlds.closures import Closure
from fixworlds.errors import TooLarge
from fixworlds.finders import Finder
from fixworlds.games import MOST_POSITIONS, Game, solve
from fixworlds.parts import JOINS, STEPPERS
from fixworlds.worlds import followers


class Debate:
    """The debate about a closed statement in a world, at pairs of a state and a statement."""

    def __init__(self, world, statement):
        self._closure = Closure(statement)
        self._many = len(world.states)
        places = range(len(self._closure.statements))
        if len(places) * self._many > MOST_POSITIONS:
            raise TooLarge("the debate could have more than 4000 positions")
        self._finder = Finder(self._closure.statements)
        pairs = [(state, place) for place in places for state in range(self._many)]
        owners = [owner(world, state, self._closure.heads[place]) for state, place in pairs]
        priorities = [self._closure.ranks.get(place, 0) for _, place in pairs]
        moves = [self._onward(world, state, place) for state, place in pairs]
        self._winners, self._choice = solve(Game(owners, priorities, moves))

    def _position(self, state, place):
        """The position in the game at a state and at the place of a statement in the closure."""
        return place * self._many + state

    def _onward(self, world, state, place):
        head = self._closure.heads[place]
        inner = self._closure.inner[place]
        if head[0] in STEPPERS:
            return [self._position(end, inner[0]) for end in followers(world, state, head[1])]
        return sorted({self._position(state, part) for part in inner})

    def is_true(self, state):
        """True if the statement is true at a state."""
        return self._winners[self._position(state, self._closure.top)] == 0

    def winner(self, state, part):
        """The player who can win at a state and a statement of the closure."""
        return self._winners[self._position(state, self._finder.place(part))]

    def reply(self, state, part):
        """What the winner chooses at a state and a statement: 0 or 1, or a state."""
        place = self._finder.place(part)
        end = self._choice[self._position(state, place)]
        if self._closure.heads[place][0] in JOINS:
            left = self._position(state, self._closure.inner[place][0])
            return 0 if end == left else 1
        return end % self._many


def owner(world, state, head):
    """Who has to move at a state and a statement with a head; without moves this player loses."""
    if head[0] in CHOOSERS:
        return CHOOSERS[head[0]]
    if head[0] == "has":
        return 1 if head[1] in world.states[state] else 0
    if head[0] == "lacks":
        return 0 if head[1] in world.states[state] else 1
    return 1 if head[0] == "true" else 0


def where_true(world, statement):
    """The list of the states at which a closed statement is true, found by the game."""
    debate = Debate(world, statement)
    return [state for state in range(len(world.states)) if debate.is_true(state)]
