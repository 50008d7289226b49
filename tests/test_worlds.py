"""Points 2, 3, 11 and 14: worlds and their texts."""

import unittest

from fixworlds.errors import FixError, InvalidWorld
from fixworlds.stages import truth
from fixworlds.worlds import (
    World, followers, format_world, parse_world, reachable_part, side_by_side,
)
from tests.reference import generator, random_world

TEXT = "world 2 3 3\nstate 0 2\nstate\nstate 1\nstep 0 0 0\nstep 0 1 2\nstep 2 0 1\n"


def small():
    return World(2, 3, [[0, 2], [], [1]], [(2, 0, 1), (0, 1, 2), (0, 0, 0)])


def told(world):
    """All that a world is told to have."""
    return world.labels, world.facts, world.states, world.steps


class Worlds(unittest.TestCase):
    def refuse(self, *parts):
        with self.assertRaises(InvalidWorld) as caught:
            World(*parts)
        self.assertIsInstance(caught.exception, FixError)

    def test_parts(self):
        self.assertEqual(
            told(small()),
            (2, 3, ((0, 2), (), (1,)), ((0, 0, 0), (0, 1, 2), (2, 0, 1))))

    def test_least_and_greatest_numbers(self):
        self.assertEqual(told(World(1, 0, [[]], [])), (1, 0, ((),), ()))
        world = World(3, 6, [[0, 1, 2, 3, 4, 5]] * 400, [(399, 2, 399), (0, 0, 399), (399, 2, 0)])
        self.assertEqual(world.steps, ((0, 0, 399), (399, 2, 0), (399, 2, 399)))
        self.assertEqual(len(world.states), 400)

    def test_refused_numbers(self):
        self.refuse(0, 0, [[]], [])
        self.refuse(4, 0, [[]], [])
        self.refuse(-1, 0, [[]], [])
        self.refuse(1, -1, [[]], [])
        self.refuse(1, 7, [[]], [])
        self.refuse(1, 0, [], [])
        self.refuse(1, 0, [[]] * 401, [])
        self.refuse(True, 0, [[]], [])

    def test_refused_facts(self):
        for row in ([0], [1, 0], [0, 0], [-1], [2], [0, 1, 1]):
            with self.subTest(row):
                self.refuse(1, 0 if row == [0] else 2, [[], row], [])

    def test_refused_steps(self):
        for step in ((2, 0, 0), (0, 0, 2), (-1, 0, 0), (0, 0, -1), (0, 2, 0), (0, -1, 0)):
            with self.subTest(step):
                self.refuse(2, 0, [[], []], [(0, 0, 0), step])
        self.refuse(1, 0, [[], []], [(0, 0, 1), (1, 0, 0), (0, 0, 1)])

    def test_lists_are_copied(self):
        states, steps = [[0], [1]], [(1, 0, 0)]
        world = World(1, 2, states, steps)
        states[0].append(1)
        states.append([])
        steps.append((0, 0, 0))
        self.assertEqual(told(world), (1, 2, ((0,), (1,)), ((1, 0, 0),)))
        self.assertEqual(followers(world, 0, 0), [])

    def test_arguments_stay(self):
        states, steps = [[0], []], [(1, 0, 1), (0, 0, 0)]
        World(1, 1, states, steps)
        self.assertEqual((states, steps), ([[0], []], [(1, 0, 1), (0, 0, 0)]))

    def test_statements_may_mention_more(self):
        world = World(1, 0, [[]], [(0, 0, 0)])
        self.assertEqual(truth(world, ("has", 5)), [])
        self.assertEqual(truth(world, ("lacks", 5)), [0])
        self.assertEqual(truth(world, ("some", 2, ("true",))), [])
        self.assertEqual(truth(world, ("all", 2, ("false",))), [0])


class Parts(unittest.TestCase):
    def test_followers(self):
        world = World(2, 0, [[], [], []], [(0, 0, 2), (0, 0, 0), (0, 1, 1), (2, 1, 2)])
        self.assertEqual(followers(world, 0, 0), [0, 2])
        self.assertEqual(followers(world, 0, 1), [1])
        self.assertEqual(followers(world, 1, 0), [])
        self.assertEqual(followers(world, 2, 1), [2])
        self.assertEqual(followers(world, 0, 2), [])

    def test_followers_are_a_new_list(self):
        world = small()
        followers(world, 0, 1).append(7)
        self.assertEqual(followers(world, 0, 1), [2])

    def test_reachable_part_goes_by_labels_first(self):
        world = World(2, 1, [[], [0], [], [], [0], []],
                      [(5, 0, 4), (5, 1, 1), (5, 1, 0), (4, 0, 5), (1, 0, 4), (4, 1, 2), (3, 0, 5)])
        part, states = reachable_part(world, [5])
        self.assertEqual(states, [5, 4, 0, 1, 2])
        self.assertEqual(told(part), (
            2, 1, ((), (0,), (), (0,), ()),
            ((0, 0, 1), (0, 1, 2), (0, 1, 3), (1, 0, 0), (1, 1, 4), (3, 0, 1))))

    def test_reachable_part_of_several_starts(self):
        world = World(1, 0, [[]] * 5, [(0, 0, 4), (1, 0, 0), (2, 0, 2), (4, 0, 1)])
        part, states = reachable_part(world, [1, 2, 3])
        self.assertEqual(states, [1, 2, 3, 0, 4])
        self.assertEqual(part.steps, ((0, 0, 3), (1, 0, 1), (3, 0, 4), (4, 0, 0)))

    def test_reachable_part_without_steps(self):
        part, states = reachable_part(small(), [1])
        self.assertEqual((told(part), states), ((2, 3, ((),), ()), [1]))

    def test_side_by_side(self):
        both = side_by_side(World(1, 2, [[1]], [(0, 0, 0)]), small())
        self.assertEqual(told(both), (
            2, 3, ((1,), (0, 2), (), (1,)), ((0, 0, 0), (1, 0, 1), (1, 1, 3), (3, 0, 2))))
        both = side_by_side(World(3, 0, [[], []], []), World(1, 6, [[5]], [(0, 0, 0)]))
        self.assertEqual(told(both), (3, 6, ((), (), (5,)), ((2, 0, 2),)))

    def test_side_by_side_with_too_many_states(self):
        first, second = World(1, 0, [[]] * 399, []), World(1, 0, [[]], [])
        self.assertEqual(len(side_by_side(first, second).states), 400)
        self.assertRaises(InvalidWorld, side_by_side, first, World(1, 0, [[], []], []))


class Texts(unittest.TestCase):
    def test_example(self):
        world = World(1, 1, [[0], []], [(0, 0, 1), (1, 0, 0)])
        self.assertEqual(
            format_world(world), "world 1 1 2\nstate 0\nstate\nstep 0 0 1\nstep 1 0 0\n")

    def test_text(self):
        self.assertEqual(format_world(small()), TEXT)
        self.assertEqual(told(parse_world(TEXT)), told(small()))

    def test_round_trip(self):
        rng = generator(20)
        for _ in range(100):
            labels, facts = rng.randint(1, 3), rng.randint(0, 6)
            world = World(*random_world(rng, rng.randint(1, 8), labels, facts))
            self.assertEqual(told(parse_world(format_world(world))), told(world))

    def test_numbers_with_three_digits(self):
        world = World(1, 0, [[]] * 400, [(399, 0, 100)])
        self.assertEqual(told(parse_world(format_world(world))), told(world))

    def test_refused(self):
        for text in [
            "", "\n", "world\n", "world 1 0\nstate\n", "world 1 0 1 1\nstate\n", "worlds 1 0 1\nstate\n",
            "world 1 0 0\n", "world 0 0 1\nstate\n", "world 4 0 1\nstate\n", "world 1 7 1\nstate\n",
            "world 1 0 1\nstate", "world 1 0 1\nstate\n\n", "\nworld 1 0 1\nstate\n",
            "world 1 0 1\n", "world 1 0 1\nstate\nstate\n", "world 1 0 2\nstate\n",
            "state\nworld 1 0 1\n", "world 1 0 1\nstep 0 0 0\nstate\n", "world 01 0 1\nstate\n",
            "world 1 00 1\nstate\n", "world 1 0 1\nstate\nstep 0 0 00\n", "world 1  0 1\nstate\n",
            "world 1 0 1 \nstate\n", " world 1 0 1\nstate\n", "world 1 0 1\nstate \n",
            "world 1 0 1\nstate\nstep 0 0\n", "world 1 0 1\nstate\nstep 0 0 0 0\n",
            "world 1 0 1\nstate\nstep 0 0 1\n", "world 1 0 1\nstate\nstep 0 1 0\n",
            "world 1 0 1\nstate\nstep 0 0 0\nstep 0 0 0\n", "world 1 0 1\nstate 0\n",
            "world 1 2 1\nstate 1 0\n", "world 1 2 1\nstate 0 0\n", "world 1 2 1\nstate 2\n",
            "world 2 0 1\nstate\nstep 0 1 0\nstep 0 0 0\n", "world 1 0 1\nstate\nstep 0 0 -0\n",
            "world 1 0 1\nstate\nstep 0 0 +0\n", "world 1 0 1\r\nstate\r\n", "world 1 0 1\nState\n",
            "world 1 0 1\nstate\nworld 1 0 1\n", "world 1 0 1\nstate\nend\n", "world 1 0 x\nstate\n",
            "world 1 0 1\tstate\n", "world 1 0 1\nstate\nstep 0 0 0", "world 1 0 1,\nstate\n",
            "world 1 0 \u0661\nstate\n", "world 1 0 \u00b9\nstate\n", "world 1 0 " + "9" * 5000 + "\nstate\n",
            "world 1 0 401\n" + "state\n" * 401, "world 1_0 0 1\nstate\n", TEXT + " ", TEXT + TEXT,
            TEXT.replace("step 0 1 2\nstep 2 0 1\n", "step 2 0 1\nstep 0 1 2\n"),
        ]:
            with self.subTest(text[:60]):
                self.assertRaises(InvalidWorld, parse_world, text)
