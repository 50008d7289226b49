"""Point 29: glimpses."""

import unittest

from fixworlds.glimpses import glimpse, like_in_steps
from fixworlds.likeness import classes
from fixworlds.stages import truth
from fixworlds.worlds import World, side_by_side
from tests.reference import classes_of, generator, random_world, shuffled_copy
from tests.test_likeness import has_binder


def plain_pairs(states, steps, many):
    """The pairs of states that are like one another in a number of steps."""
    every = range(len(states))
    pairs = {(s, t) for s in every for t in every if set(states[s]) == set(states[t])}
    same = pairs
    for _ in range(many):
        pairs = {
            (s, t) for s, t in same
            if all(any(b == t and a == label and (end, e) in pairs for b, a, e in steps)
                   for begin, label, end in steps if begin == s)
            and all(any(b == s and a == label and (e, end) in pairs for b, a, e in steps)
                    for begin, label, end in steps if begin == t)}
    return pairs


class LikeInSteps(unittest.TestCase):
    def test_line(self):
        line = World(1, 0, [[]] * 5, [(at, 0, at + 1) for at in range(4)])
        self.assertEqual([like_in_steps(line, many) for many in (0, 1, 2, 3, 4, 99)], [
            (0, 0, 0, 0, 0), (0, 0, 0, 0, 1), (0, 0, 0, 1, 2), (0, 0, 1, 2, 3),
            (0, 1, 2, 3, 4), (0, 1, 2, 3, 4)])

    def test_facts_alone(self):
        world = World(2, 2, [[1], [], [1], [0, 1]], [(0, 0, 1), (2, 1, 1)])
        self.assertEqual(like_in_steps(world, 0), (0, 1, 0, 2))
        self.assertEqual(like_in_steps(world, 1), (0, 1, 2, 3))

    def test_random(self):
        rng = generator(95)
        for _ in range(300):
            labels, facts, states, steps = random_world(
                rng, rng.randint(1, 5), facts=rng.choice((0, 1, 2)), chance=rng.choice((0.1, 0.3)))
            world = World(labels, facts, states, steps)
            for many in (0, 1, 2, 3):
                self.assertEqual(
                    like_in_steps(world, many), classes_of(len(states), plain_pairs(states, steps, many)))
            self.assertEqual(like_in_steps(world, 50), classes(world))


class Glimpses(unittest.TestCase):
    def check(self, world, state, labels, facts, other):
        both = side_by_side(world, other)
        for many in (0, 1, 2, 3):
            statement = glimpse(world, state, labels, facts, many)
            self.assertFalse(has_binder(statement))
            numbers = like_in_steps(both, many)
            self.assertEqual(
                truth(both, statement),
                [at for at, number in enumerate(numbers) if number == numbers[state]])

    def test_zero_one_and_three_steps(self):
        line = World(1, 0, [[]] * 4, [(at, 0, at + 1) for at in range(3)])
        ring = World(1, 0, [[]], [(0, 0, 0)])
        both = side_by_side(line, ring)
        self.assertEqual([truth(both, glimpse(line, 0, 1, 0, many)) for many in (0, 1, 2, 3)],
                         [[0, 1, 2, 3, 4], [0, 1, 2, 4], [0, 1, 4], [0, 4]])

    def test_more_labels_and_facts(self):
        world = World(1, 0, [[], []], [(0, 0, 1)])
        self.check(world, 0, 3, 6, World(3, 6, [[], [5], [], []], [(0, 0, 1), (2, 0, 3), (3, 2, 3)]))

    def test_random(self):
        rng = generator(96)
        for _ in range(60):
            labels, facts = rng.randint(1, 3), rng.randint(0, 2)
            parts = random_world(rng, rng.randint(1, 4), rng.randint(1, labels), rng.randint(0, facts), 0.3)
            other = random_world(rng, rng.randint(1, 4), rng.randint(1, labels), rng.randint(0, facts), 0.3)
            if rng.random() < 0.5:
                other = shuffled_copy(rng, *parts)
                if other[3]:
                    other[3].pop()
            self.check(World(*parts), rng.randrange(len(parts[2])), labels, facts, World(*other))

    def test_largest(self):
        every = [(s, a, t) for s in range(4) for a in range(3) for t in range(4) if (s + t) % 4 != a]
        world = World(3, 6, [[0], [1], [2, 5], [3, 4]], every)
        self.assertEqual(truth(world, glimpse(world, 2, 3, 6, 3)), [2])
