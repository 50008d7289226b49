"""Games between two players, in which the greatest priority that is met again and again decides."""

from fixworlds.components import components, flood, has_loop
from fixworlds.errors import InvalidGame
from fixworlds.limits import ascends, is_number
from fixworlds.measures import Measures, winners_and_choice, winners_of

MOST_POSITIONS = 4000
MOST_PRIORITY = 200


class Game:
    """A game: the owners, the priorities and the ascending moves of its positions."""

    def __init__(self, owners, priorities, moves):
        self.owners = tuple(owners)
        self.priorities = tuple(priorities)
        self.moves = tuple([tuple(ends) for ends in moves])
        many = len(self.owners)
        if not is_number(many, 1, MOST_POSITIONS):
            raise InvalidGame("a game has 1 to 4000 positions")
        if len(self.priorities) != many or len(self.moves) != many:
            raise InvalidGame("the lists of a game have different lengths")
        for at in range(many):
            if not is_number(self.owners[at], 0, 1):
                raise InvalidGame("a position belongs to 0 or 1")
            if not is_number(self.priorities[at], 0, MOST_PRIORITY):
                raise InvalidGame("a priority is a number from 0 to 200")
            check_moves(self.moves[at], many)


def check_moves(ends, many):
    """Raises InvalidGame if the moves of a position lead to no position, or do not ascend."""
    for end in ends:
        if not is_number(end, 0, many - 1):
            raise InvalidGame("a move leads to a position that is not there")
    if not ascends(ends):
        raise InvalidGame("the moves of a position do not ascend")


def solve(game):
    """The winner of each position, and a choice that is winning for both players."""
    return winners_and_choice(game.owners, game.priorities, game.moves)


def winners_by_measures(game):
    """The winner of each position, found without strategies."""
    return winners_of(Measures(game.owners, game.priorities, game.moves))


def is_winning(game, player, positions, choice):
    """True if a choice is winning for a player and a list of positions."""
    ways = {}
    for at, ends in enumerate(game.moves):
        ways[at] = [choice[at]] if game.owners[at] == player and choice[at] in ends else ends
    met = {}
    for start in positions:
        if start not in met:
            flood(start, ways, met)
    for at in met:
        if game.owners[at] == player and choice[at] not in game.moves[at]:
            return False
    return not has_lost_loop(game.priorities, player, {at: ways[at] for at in met})


def has_lost_loop(priorities, player, ways):
    """True if some play goes round for ever so that the other player wins it."""
    waiting = [ways]
    while waiting:
        part = waiting.pop()
        for members in components(part):
            if has_loop(members, part):
                greatest = max([priorities[at] for at in members])
                if greatest & 1 != player:
                    return True
                waiting.append({at: part[at] for at in members if priorities[at] < greatest})
    return False
