"""Points 20 and 22: likeness, what parts states, and folded worlds."""

import unittest

from fixworlds.likeness import can_do, classes, folded, parting
from fixworlds.stages import truth
from fixworlds.worlds import World
from tests.reference import (
    classes_of, free_in, generator, likeness, random_statement, random_world, shuffled_copy, size)


def has_binder(statement):
    """True if a binder or a variable stands in a statement."""
    return statement[0] in ("least", "most", "var") or any(
        has_binder(part) for part in statement[1:] if isinstance(part, tuple))


def layered_world(rng, wide, deep, most):
    """A world of layers that lead down to facts: states differ only behind many steps."""
    steps = {
        (wide * layer + at, 0, wide * (layer + 1) + rng.randrange(wide))
        for layer in range(deep - 1) for at in range(wide) for _ in range(rng.randint(1, most))}
    rows = [[]] * (wide * (deep - 1)) + [[p for p in range(2) if rng.random() < 0.5] for _ in range(wide)]
    return World(1, 2, rows, sorted(steps))


class Classes(unittest.TestCase):
    def test_example(self):
        world = World(1, 1, [[0], [0], [0]], [(0, 0, 1), (2, 0, 2)])
        self.assertEqual((classes(world), parting(world, 0, 0)), ((0, 1, 2), None))

    def test_world_without_steps(self):
        self.assertEqual(classes(World(1, 0, [[]], [])), (0,))
        self.assertEqual(classes(World(2, 2, [[1], [], [1], [0, 1], []], [])), (0, 1, 0, 2, 1))

    def test_step_to_itself_and_ring(self):
        ring = [(0, 0, 0), (1, 0, 2), (2, 0, 1)]
        self.assertEqual(classes(World(1, 1, [[0]] * 3, ring)), (0, 0, 0))
        self.assertEqual(classes(World(1, 1, [[0], [0], []], ring)), (0, 1, 2))

    def test_labels_differ(self):
        self.assertEqual(classes(World(2, 0, [[]] * 3, [(0, 0, 2), (1, 1, 2)])), (0, 1, 2))
        self.assertEqual(classes(World(2, 0, [[]] * 3, [(0, 0, 2), (1, 0, 2)])), (0, 0, 1))

    def test_differ_behind_several_steps(self):
        rows = [[]] * 9 + [[0]]
        steps = [(at, 0, at + 1) for at in (0, 1, 2, 3, 5, 6, 7, 8)]
        self.assertEqual(classes(World(1, 1, rows, steps)), (0, 1, 2, 3, 4, 5, 6, 7, 8, 9))
        self.assertEqual(classes(World(1, 1, [[]] * 10, steps)), (0, 1, 2, 3, 4, 0, 1, 2, 3, 4))

    def test_choice_now_or_later(self):
        # 0 chooses at the first step between facts 0 and 1, 4 at the second one.
        rows = [[], [], [], [0], [], [], [1]]
        world = World(1, 2, rows, [(0, 0, 1), (0, 0, 2), (1, 0, 3), (2, 0, 6), (4, 0, 5), (5, 0, 3), (5, 0, 6)])
        self.assertEqual(classes(world), (0, 1, 2, 3, 4, 5, 6))

    def test_random(self):
        rng = generator(50)
        for _ in range(400):
            parts = random_world(rng, rng.randint(1, 6), chance=rng.choice((0.1, 0.3, 0.6)))
            if rng.random() < 0.4:
                parts = shuffled_copy(rng, *parts)
            labels, facts, states, steps = parts
            expected = classes_of(len(states), likeness(states, steps))
            self.assertEqual(classes(World(labels, facts, states, steps)), expected)

    def test_like_states_have_the_same_true_statements(self):
        rng = generator(51)
        for _ in range(200):
            world = World(*shuffled_copy(rng, *random_world(rng, rng.randint(1, 4))))
            numbers = classes(world)
            found = truth(world, random_statement(rng, 15))
            self.assertEqual(
                {numbers[s] for s in found} & {numbers[s] for s in range(len(numbers)) if s not in found},
                set())

    def test_four_hundred_states(self):
        line = World(1, 0, [[]] * 400, [(at, 0, at + 1) for at in range(399)])
        self.assertEqual(classes(line), tuple(range(400)))
        down = World(1, 0, [[]] * 400, [(s, 0, t) for s in range(400) for t in range(s)])
        self.assertEqual(classes(down), tuple(range(400)))
        every = World(3, 0, [[]] * 400, [(s, 2, t) for s in range(400) for t in range(400)])
        self.assertEqual(classes(every), (0,) * 400)


class Parting(unittest.TestCase):
    def check(self, world):
        numbers = classes(world)
        for first, number in enumerate(numbers):
            for second, other in enumerate(numbers):
                statement = parting(world, first, second)
                if number == other:
                    self.assertIsNone(statement)
                    continue
                self.assertEqual(free_in(statement), set())
                self.assertFalse(has_binder(statement))
                found = truth(world, statement)
                self.assertIn(first, found)
                self.assertNotIn(second, found)

    def test_facts_and_steps(self):
        self.check(World(1, 2, [[0], [1], [], [0, 1]], []))
        self.check(World(3, 0, [[]] * 4, [(0, 0, 3), (1, 1, 3), (2, 2, 3), (2, 2, 2)]))
        self.check(World(1, 0, [[], []], [(0, 0, 0)]))

    def test_random(self):
        rng = generator(52)
        for _ in range(150):
            parts = random_world(rng, rng.randint(1, 6), facts=rng.choice((0, 1)), chance=rng.choice((0.1, 0.2, 0.4)))
            if rng.random() < 0.3:
                parts = shuffled_copy(rng, *parts)
            self.check(World(*parts))

    def test_far_away(self):
        line = World(1, 0, [[]] * 400, [(at, 0, at + 1) for at in range(399)])
        statement = parting(line, 0, 1)
        self.assertEqual(truth(line, statement), [0])
        self.assertIsNone(parting(line, 7, 7))

    def test_stays_short_where_much_differs_behind_many_steps(self):
        rng = generator(53)
        for wide, deep, most in [(5, 80, 5), (6, 66, 6), (8, 50, 8), (10, 30, 10)]:
            world = layered_world(rng, wide, deep, most)
            for second in range(1, wide):
                statement = parting(world, 0, second)
                if statement is not None:
                    self.assertLess(size(statement), 50000)
                    found = truth(world, statement)
                    self.assertTrue(0 in found and second not in found)


class CanDo(unittest.TestCase):
    def test_without_being_like_it(self):
        # 0 has all steps that 1 has, and one more.
        world = World(1, 1, [[], [], [0], []], [(0, 0, 2), (0, 0, 3), (1, 0, 2)])
        self.assertEqual(can_do(world), [(0, 0), (1, 0), (1, 1), (2, 2), (3, 0), (3, 1), (3, 3)])

    def test_each_of_both_but_not_like_one_another(self):
        # Both can do all that the other one can: the step from 0 to 3 adds nothing.
        world = World(1, 0, [[]] * 5, [(0, 0, 2), (0, 0, 3), (2, 0, 3), (1, 0, 4), (4, 0, 3)])
        self.assertNotEqual(classes(world)[0], classes(world)[1])
        self.assertLessEqual({(0, 1), (1, 0)}, set(can_do(world)))

    def test_same_facts_needed(self):
        self.assertEqual(can_do(World(1, 1, [[0], []], [])), [(0, 0), (1, 1)])

    def test_random(self):
        rng = generator(54)
        for _ in range(400):
            labels, facts, states, steps = random_world(
                rng, rng.randint(1, 6), facts=rng.choice((0, 1, 2)), chance=rng.choice((0.1, 0.3, 0.6)))
            self.assertEqual(
                can_do(World(labels, facts, states, steps)),
                sorted(likeness(states, steps, one_sided=True)))

    def test_four_hundred_states(self):
        line = World(1, 0, [[]] * 400, [(at, 0, at + 1) for at in range(399)])
        self.assertEqual(can_do(line), [(s, t) for s in range(400) for t in range(s + 1)])
        up = World(1, 0, [[]] * 400, [(s, 0, t) for s in range(400) for t in range(s + 1, 400)])
        self.assertEqual(can_do(up), can_do(line))


class Folded(unittest.TestCase):
    def test_ring(self):
        ring = World(2, 3, [[2], [0]] * 3, [(at, 1, (at + 1) % 6) for at in range(6)])
        small = folded(ring)
        self.assertEqual((small.labels, small.facts, small.states), (2, 3, ((2,), (0,))))
        self.assertEqual(small.steps, ((0, 1, 1), (1, 1, 0)))

    def test_random(self):
        rng = generator(55)
        for _ in range(200):
            labels, facts, states, steps = shuffled_copy(rng, *random_world(rng, rng.randint(1, 4)))
            world = World(labels, facts, states, steps)
            numbers = classes(world)
            small = folded(world)
            self.assertEqual(classes(small), tuple(range(max(numbers) + 1)))
            self.assertEqual([small.states[number] for number in numbers], [tuple(row) for row in states])
            self.assertEqual(
                small.steps, tuple(sorted({(numbers[s], a, numbers[t]) for s, a, t in steps})))
