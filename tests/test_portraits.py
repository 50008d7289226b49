"""Point 21: portraits."""

import unittest

from fixworlds.errors import TooLarge
from fixworlds.likeness import classes
from fixworlds.portraits import portrait
from fixworlds.stages import truth
from fixworlds.worlds import World, side_by_side
from tests.reference import free_in, generator, random_world, shuffled_copy


class Portraits(unittest.TestCase):
    def check(self, world, state, labels, facts, other):
        """The portrait of a state is true just at the states like it, in its world and another."""
        statement = portrait(world, state, labels, facts)
        self.assertEqual(free_in(statement), set())
        both = side_by_side(world, other)
        numbers = classes(both)
        self.assertEqual(
            truth(both, statement),
            [at for at, number in enumerate(numbers) if number == numbers[state]])

    def test_world_without_steps(self):
        world = World(1, 1, [[0]], [])
        others = World(2, 2, [[0], [], [0, 1], [0], [0]], [(3, 0, 0), (4, 1, 0)])
        self.check(world, 0, 2, 2, others)
        self.assertEqual(truth(others, portrait(world, 0, 2, 2)), [0])
        self.assertEqual(truth(others, portrait(world, 0, 1, 2)), [0, 4])

    def test_step_to_itself(self):
        world = World(1, 0, [[]], [(0, 0, 0)])
        self.check(world, 0, 1, 0, World(1, 0, [[]] * 4, [(0, 0, 1), (1, 0, 0), (2, 0, 3)]))

    def test_without_facts_and_with_all_numbers(self):
        world = World(1, 0, [[], []], [(0, 0, 1)])
        other = World(3, 6, [[], [5], []], [(0, 0, 2), (1, 0, 2), (2, 2, 0)])
        self.check(world, 0, 3, 6, other)

    def test_differ_behind_several_steps(self):
        line = [(0, 0, 1), (1, 0, 2), (2, 0, 3)]
        world = World(1, 1, [[], [], [], [0], []], line)
        other = World(1, 1, [[], [], [], [], []], line + [(3, 0, 4)])
        for state in range(5):
            self.check(world, state, 1, 1, other)

    def test_five_states_and_six(self):
        self.check(World(1, 0, [[]] * 5, [(at, 0, at + 1) for at in range(4)]), 0, 1, 0,
                   World(1, 0, [[]] * 6, [(at, 0, at + 1) for at in range(5)]))
        self.assertRaises(TooLarge, portrait, World(1, 0, [[]] * 6, []), 0, 1, 0)

    def test_random(self):
        rng = generator(60)
        for _ in range(300):
            labels, facts = rng.randint(1, 3), rng.randint(0, 2)
            parts = random_world(rng, rng.randint(1, 5), rng.randint(1, labels), rng.randint(0, facts),
                                 rng.choice((0.1, 0.3, 0.6)))
            other = random_world(rng, rng.randint(1, 5), rng.randint(1, labels), rng.randint(0, facts))
            if rng.random() < 0.6:
                other = shuffled_copy(rng, *parts)
                if other[3] and rng.random() < 0.5:
                    other[3].pop()
            world = World(*parts)
            self.check(world, rng.randrange(len(parts[2])), labels, facts, World(*other))
