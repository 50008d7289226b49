"""Points 17 and 18: games."""

import itertools
import unittest

from fixworlds.errors import InvalidGame
from fixworlds.games import Game, is_winning, solve, winners_by_measures
from tests.reference import generator


def play_winner(owners, priorities, choice, start):
    """The winner of the play in which both players move as one choice says."""
    visited, at = [], start
    while at not in visited:
        visited.append(at)
        if choice[at] == -1:
            return 1 - owners[at]
        at = choice[at]
    return max(priorities[each] for each in visited[visited.index(at):]) % 2


def choices_of(owners, moves, player, own):
    """All ways to fill a choice at the positions of a player."""
    places = [at for at in range(len(owners)) if owners[at] == player and moves[at]]
    for ends in itertools.product(*[moves[at] for at in places]):
        choice = list(own)
        for at, end in zip(places, ends):
            choice[at] = end
        yield choice


def plain_winners(owners, priorities, moves):
    """The winner of each position, by trying all choices."""
    nothing = [-1] * len(owners)
    winners = []
    for start in range(len(owners)):
        zero = any(
            all(play_winner(owners, priorities, both, start) == 0
                for both in choices_of(owners, moves, 1, mine))
            for mine in choices_of(owners, moves, 0, nothing))
        winners.append(0 if zero else 1)
    return tuple(winners)


def plain_is_winning(owners, priorities, moves, player, positions, choice):
    """What point 18 tells, by trying all choices of the other player."""
    for start in positions:
        mine = [choice[at] if owners[at] == player else -1 for at in range(len(owners))]
        for both in choices_of(owners, moves, 1 - player, mine):
            visited, at = [], start
            while at not in visited:
                visited.append(at)
                if owners[at] == player and both[at] not in moves[at]:
                    return False
                if both[at] == -1:
                    break
                at = both[at]
            if play_winner(owners, priorities, both, start) != player:
                return False
    return True


def random_game(rng, positions, greatest, many, least=0):
    """The three lists of a game."""
    return (
        [rng.randrange(2) for _ in range(positions)],
        [rng.randint(0, greatest) for _ in range(positions)],
        [sorted(rng.sample(range(positions), min(positions, rng.randint(least, many))))
         for _ in range(positions)],
    )


def hard_game(levels):
    """A game on which solving the rest again without each part that is won takes for ever."""
    names = [(kind, at) for at in range(levels + 1) for kind in "abcde"]
    names = [(kind, at) for kind, at in names if at >= 1 and kind in "ab" or at < levels and kind in "cde"]
    place = {name: index for index, name in enumerate(names)}
    told = {
        "a": lambda at: (1 - at % 2, 1 - at % 2, [("b", at), ("d", at - 1)]),
        "b": lambda at: (at % 2, 1 - at % 2, [("a", at), ("c", at)]),
        "c": lambda at: (1 - at % 2, 3 * at + 5, [("b", at + 1), ("d", at)]),
        "d": lambda at: (at % 2, 3 * at + 4, [("e", at), ("d", at - 1), ("d", at + 1)]),
        "e": lambda at: (1 - at % 2, 3 * at + 3, [("b", at + 1), ("d", at)]),
    }
    rows = [told[kind](at) for kind, at in names]
    return ([row[0] for row in rows], [row[1] for row in rows],
            [sorted(place[end] for end in row[2] if end in place) for row in rows])


class Games(unittest.TestCase):
    def refuse(self, *lists):
        self.assertRaises(InvalidGame, Game, *lists)

    def test_attributes(self):
        owners, priorities, moves = [0, 1], [3, 4], [[0, 1], []]
        game = Game(owners, priorities, moves)
        moves[1].append(0)
        moves.append([])
        owners.append(0)
        priorities[0] = 9
        self.assertEqual((game.owners, game.priorities, game.moves), ((0, 1), (3, 4), ((0, 1), ())))

    def test_least_and_greatest_numbers(self):
        self.assertEqual(Game([1], [200], [[0]]).priorities, (200,))
        game = Game([0] * 4000, [0] * 4000, [[3999]] * 4000)
        self.assertEqual(solve(game), ((0,) * 4000, (3999,) * 4000))

    def test_refused(self):
        self.refuse([], [], [])
        self.refuse([0] * 4001, [0] * 4001, [[]] * 4001)
        for owner in (-1, 2):
            self.refuse([0, owner], [0, 0], [[], []])
        for priority in (-1, 201):
            self.refuse([0, 0], [0, priority], [[], []])
        for ends in ([2], [-1], [1, 0], [0, 0], [0, 1, 1]):
            self.refuse([0, 0], [0, 0], [[], ends])

    def test_lists_of_different_lengths(self):
        self.refuse([0], [0, 0], [[], []])
        self.refuse([0, 0], [0], [[], []])
        self.refuse([0, 0], [0, 0], [[]])
        self.refuse([0, 0, 0], [0, 0], [[], []])


class Solving(unittest.TestCase):
    def check(self, game):
        winners, choice = solve(game)
        self.assertEqual(winners_by_measures(game), winners)
        for player in (0, 1):
            won = [at for at, winner in enumerate(winners) if winner == player]
            self.assertTrue(is_winning(game, player, won, choice))
        for at, owner in enumerate(game.owners):
            self.assertEqual(choice[at] == -1, winners[at] != owner)
        return winners

    def test_example(self):
        game = Game([0, 1, 0], [1, 2, 3], [[0, 1], [0], [2]])
        self.assertEqual(solve(game), ((0, 0, 1), (1, -1, -1)))

    def test_one_position(self):
        for owner in (0, 1):
            self.assertEqual(solve(Game([owner], [0], [[]])), ((1 - owner,), (-1,)))
            for priority in (0, 1, 199, 200):
                winner = priority % 2
                self.assertEqual(
                    solve(Game([owner], [priority], [[0]])),
                    ((winner,), (0 if winner == owner else -1,)))

    def test_positions_without_moves(self):
        # Player 1 can be led to 3, where he has no move; from 2 he leads player 0 to 4.
        game = Game([0, 1, 1, 1, 0], [1, 1, 0, 0, 0], [[1, 2], [3], [1, 4], [], []])
        self.assertEqual(solve(game), ((0, 0, 1, 0, 1), (1, -1, 4, -1, -1)))
        self.check(game)

    def test_random(self):
        rng = generator(27)
        for _ in range(600):
            lists = random_game(rng, rng.randint(1, 5), rng.randint(0, 6), 3)
            self.assertEqual(self.check(Game(*lists)), plain_winners(*lists))

    def test_larger(self):
        rng = generator(28)
        for _ in range(300):
            self.check(Game(*random_game(rng, rng.randint(5, 40), rng.randint(0, 12), 4)))

    def test_four_thousand_positions(self):
        rng = generator(29)
        self.check(Game(*random_game(rng, 4000, 200, 3, 1)))
        near = [sorted({max(0, min(3999, at + rng.randint(-4, 4))) for _ in range(3)})
                for at in range(4000)]
        self.check(Game([rng.randrange(2) for _ in near], [rng.randint(0, 200) for _ in near], near))
        line = [[at + 1] for at in range(3999)] + [[]]
        self.check(Game([at % 2 for at in range(4000)], [at % 201 for at in range(4000)], line))

    def test_many_priorities_on_which_the_winner_changes(self):
        self.check(Game(*hard_game(6)))
        self.check(Game(*hard_game(65)))

    def test_equal_arguments_give_equal_results(self):
        lists = random_game(generator(30), 50, 10, 4)
        self.assertEqual(solve(Game(*lists)), solve(Game(*lists)))


class Winning(unittest.TestCase):
    def test_choice_that_is_no_move(self):
        game = Game([0, 0, 1], [0, 0, 0], [[0], [0, 1], [0, 2]])
        self.assertIs(is_winning(game, 0, [0, 1, 2], (0, 1, -1)), True)
        self.assertIs(is_winning(game, 0, [0], (0, -1, -1)), True)
        self.assertIs(is_winning(game, 0, [1], (0, -1, -1)), False)
        self.assertIs(is_winning(game, 0, [1], (0, 2, -1)), False)
        self.assertIs(is_winning(game, 0, [2], (1, 1, -1)), False)

    def test_positions_without_moves(self):
        game = Game([0, 1], [0, 1], [[], []])
        self.assertIs(is_winning(game, 1, [0], (-1, -1)), True)
        self.assertIs(is_winning(game, 0, [0], (-1, -1)), False)
        self.assertIs(is_winning(game, 0, [1], (-1, -1)), True)
        self.assertIs(is_winning(game, 1, [1], (-1, -1)), False)

    def test_no_positions(self):
        self.assertIs(is_winning(Game([0], [1], [[0]]), 0, [], (-1,)), True)

    def test_greatest_priority_decides(self):
        # From 0 the other player can go round by 1, by 2, or by both.
        game = Game([1, 0, 0], [0, 2, 3], [[1, 2], [0], [0]])
        self.assertIs(is_winning(game, 0, [0], (-1, 0, 0)), False)
        game = Game([1, 0, 0], [0, 4, 2], [[1, 2], [0], [0]])
        self.assertIs(is_winning(game, 0, [0], (-1, 0, 0)), True)
        game = Game([1, 0, 0], [3, 4, 2], [[1, 2], [0], [0]])
        self.assertIs(is_winning(game, 0, [0], (-1, 0, 0)), False)

    def test_moves_of_the_other_player_in_the_choice_do_not_count(self):
        game = Game([1, 1], [0, 1], [[0, 1], [1]])
        self.assertIs(is_winning(game, 0, [0], (0, 1)), False)

    def test_random(self):
        rng = generator(31)
        for _ in range(1500):
            owners, priorities, moves = random_game(rng, rng.randint(1, 5), 4, 3)
            everywhere = range(len(owners))
            choice = tuple(
                rng.choice(moves[at] * 4 + [-1, rng.choice(everywhere)]) for at in everywhere)
            positions = [at for at in everywhere if rng.random() < 0.4]
            for player in (0, 1):
                self.assertIs(
                    is_winning(Game(owners, priorities, moves), player, positions, choice),
                    plain_is_winning(owners, priorities, moves, player, positions, choice))
