"""Point 34: games of likeness."""

import unittest

from fixworlds.errors import TooLarge
from fixworlds.likegames import LikenessGame
from fixworlds.likeness import classes
from fixworlds.worlds import World, followers
from tests.reference import generator, likeness, random_world, shuffled_copy, small_worlds


class Games(unittest.TestCase):
    def check(self, world):
        game = LikenessGame(world)
        many = range(len(world.states))
        alike = likeness(world.states, world.steps)
        for pair in ((s, t) for s in many for t in many):
            self.assertEqual(game.winner(*pair), 0 if pair in alike else 1)
            if pair in alike:
                self.play_answers(game, world, pair)
            elif world.states[pair[0]] == world.states[pair[1]]:
                self.play_attacks(game, world, pair, len(many))
        return game

    def play_attacks(self, game, world, pair, most):
        """Plays all answers to the attacks; all these plays must end soon enough, and be won."""
        waiting = [(pair, 0)]
        while waiting:
            pair, steps = waiting.pop()
            if world.states[pair[0]] != world.states[pair[1]]:
                continue
            self.assertLess(steps, most)
            side, label, end = game.attack(*pair)
            self.assertIn(side, (0, 1))
            self.assertIn(end, followers(world, pair[side], label))
            for other in followers(world, pair[1 - side], label):
                waiting.append(((end, other) if side == 0 else (other, end), steps + 1))

    def play_answers(self, game, world, pair):
        """Plays all attacks against the answers; player 0 must never be without one."""
        met, waiting = {pair}, [pair]
        while waiting:
            pair = waiting.pop()
            self.assertEqual(world.states[pair[0]], world.states[pair[1]])
            for side in (0, 1):
                for label in range(world.labels):
                    for end in followers(world, pair[side], label):
                        other = game.answer(*pair, side, label, end)
                        self.assertIn(other, followers(world, pair[1 - side], label))
                        following = (end, other) if side == 0 else (other, end)
                        if following not in met:
                            met.add(following)
                            waiting.append(following)

    def test_equal_states(self):
        world = World(1, 1, [[0], []], [(0, 0, 0), (0, 0, 1)])
        game = self.check(world)
        for state in (0, 1):
            self.assertEqual(game.winner(state, state), 0)
        self.assertEqual((game.answer(0, 0, 0, 0, 1), game.answer(0, 0, 1, 0, 0)), (1, 0))

    def test_unlike_facts(self):
        game = self.check(World(1, 2, [[0], [1], [0, 1], []], []))
        self.assertEqual([[game.winner(s, t) for t in range(4)] for s in range(4)],
                         [[0, 1, 1, 1], [1, 0, 1, 1], [1, 1, 0, 1], [1, 1, 1, 0]])

    def test_step_that_cannot_be_answered(self):
        game = self.check(World(2, 0, [[], [], []], [(0, 0, 2), (1, 1, 2)]))
        self.assertEqual(game.attack(0, 2), (0, 0, 2))
        self.assertEqual(game.attack(2, 0), (1, 0, 2))
        self.assertEqual(game.attack(2, 1), (1, 1, 2))
        self.assertEqual(game.winner(0, 1), 1)

    def test_states_that_differ_behind_several_steps(self):
        # Two rows of six states each; only the last state of the second has a fact.
        states = [[]] * 11 + [[0]]
        steps = [(at, 0, at + 1) for at in list(range(5)) + list(range(6, 11))]
        game = self.check(World(1, 1, states, steps))
        self.assertEqual(game.winner(0, 6), 1)
        self.assertEqual(game.attack(0, 6), (0, 0, 1))

    def test_the_side_matters(self):
        # All that 1 can do 0 can do, too: so player 1 must begin with a step of 0.
        world = World(1, 2, [[], [], [0], [1]], [(0, 0, 2), (0, 0, 3), (1, 0, 2)])
        game = self.check(world)
        self.assertEqual(game.attack(0, 1), (0, 0, 3))
        self.assertEqual(game.attack(1, 0), (1, 0, 3))

    def test_the_side_changes_on_the_way(self):
        states = [[], [], [], [], [], [0]]
        steps = [(0, 0, 2), (1, 0, 2), (1, 0, 3), (2, 0, 4), (2, 0, 5), (3, 0, 4)]
        game = self.check(World(1, 1, states, steps))
        self.assertEqual(game.attack(0, 1), (1, 0, 3))
        self.assertEqual(game.attack(2, 3), (0, 0, 5))

    def test_play_without_end(self):
        game = self.check(World(1, 0, [[], [], []], [(0, 0, 0), (1, 0, 2), (2, 0, 1)]))
        self.assertEqual([game.winner(0, state) for state in range(3)], [0, 0, 0])

    def test_twelve_states_and_thirteen(self):
        ring = [(at, 0, (at + 1) % 12) for at in range(12)]
        game = self.check(World(1, 1, [[0]] + [[]] * 11, ring))
        self.assertEqual(game.winner(1, 2), 1)
        self.assertRaises(TooLarge, LikenessGame, World(1, 1, [[]] * 13, []))

    def test_long_attacks(self):
        # The last state of a row of twelve parts them one after another.
        self.check(World(1, 0, [[]] * 12, [(at, 0, at + 1) for at in range(11)]))
        self.check(World(1, 0, [[]] * 12, [(at, 0, at + 1) for at in range(11)] + [(0, 0, 0)]))

    def test_all_small_worlds(self):
        for parts in small_worlds():
            self.check(World(*parts))

    def test_random(self):
        rng = generator(231)
        for _ in range(150):
            chance = rng.choice((0.1, 0.2, 0.4))
            parts = random_world(rng, rng.randint(1, 6), facts=rng.choice((0, 1)), chance=chance)
            world = World(*shuffled_copy(rng, *parts))
            game = self.check(world)
            numbers = classes(world)
            for s, number in enumerate(numbers):
                self.assertEqual([game.winner(s, t) for t in range(len(numbers))],
                                 [0 if other == number else 1 for other in numbers])
