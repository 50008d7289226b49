"""Point 40: again and again."""

import unittest

from fixworlds.again import again_everywhere, again_somewhere, last_everywhere, last_somewhere
from fixworlds.stages import truth
from fixworlds.texts import parse_statement
from fixworlds.worlds import World
from tests.reference import free_in, generator, meaning, random_statement, random_world, small_worlds

HAS, LACKS = ("has", 0), ("lacks", 0)


def behind(ways, start, allowed):
    """The states to which rows of one step or more lead from one, through allowed states alone."""
    found, waiting = set(), [start]
    while waiting:
        for end in ways[waiting.pop()]:
            if end in allowed and end not in found:
                found.add(end)
                waiting.append(end)
    return found


class Rows:
    """A search for rows of steps with a label without end, and for what they meet."""

    def __init__(self, states, steps, label):
        self.every = set(range(len(states)))
        self.ways = {s: [e for b, a, e in steps if b == s and a == label] for s in self.every}
        self.met = {s: {s} | behind(self.ways, s, self.every) for s in self.every}

    def reaching_loop(self, chosen, allowed):
        """Where a row begins that goes round for ever through allowed states, a chosen one among them."""
        round_again = {s for s in chosen & allowed if s in behind(self.ways, s, allowed)}
        return {s for s in self.every if self.met[s] & round_again}


class Again(unittest.TestCase):
    def check(self, parts, statement, label=0):
        labels, facts, states, steps = parts
        world = World(labels, facts, states, steps)
        rows = Rows(states, steps, label)
        true_at = meaning(states, steps, statement, {})
        others = rows.every - true_at
        expected = (
            (again_somewhere, rows.reaching_loop(true_at, rows.every)),
            (again_everywhere, rows.every - rows.reaching_loop(others, others)),
            (last_somewhere, rows.reaching_loop(true_at, true_at)),
            (last_everywhere, rows.every - rows.reaching_loop(others, rows.every)),
        )
        for function, where in expected:
            built = function(label, statement)
            self.assertEqual(free_in(built), set())
            self.assertEqual(truth(world, built), sorted(where), function)

    def where(self, world, statement, label=0):
        """Where the four statements are true, in the order of the point."""
        return [truth(world, function(label, statement)) for function in (
            again_somewhere, again_everywhere, last_somewhere, last_everywhere)]

    def test_example(self):
        world = World(1, 1, [[], [0]], [(0, 0, 1), (1, 0, 0), (1, 0, 1)])
        self.assertEqual(truth(world, again_somewhere(0, LACKS)), [0, 1])
        self.assertEqual(truth(world, last_everywhere(0, HAS)), [])
        self.assertEqual(self.where(world, HAS), [[0, 1], [0, 1], [0, 1], []])

    def test_state_without_steps(self):
        for states in ([[0]], [[]]):
            self.assertEqual(self.where(World(1, 1, states, []), HAS), [[], [0], [], [0]])
        # All rows end: none without end begins anywhere.
        world = World(1, 1, [[0], [0], [0]], [(0, 0, 1), (0, 0, 2), (1, 0, 2)])
        self.assertEqual(self.where(world, HAS), [[], [0, 1, 2], [], [0, 1, 2]])

    def test_rows_that_end_do_not_count(self):
        # From 0 one row ends at 2, where the fact is, and one stays at 1 without it.
        world = World(1, 1, [[], [], [0]], [(0, 0, 1), (1, 0, 1), (0, 0, 2)])
        self.assertEqual(self.where(world, HAS), [[], [2], [], [2]])
        self.assertEqual(self.where(world, LACKS), [[0, 1], [0, 1, 2], [0, 1], [0, 1, 2]])

    def test_the_first_state_alone_is_not_enough(self):
        world = World(1, 1, [[0], []], [(0, 0, 1), (1, 0, 1)])
        self.assertEqual(self.where(world, HAS), [[], [], [], []])
        self.assertEqual(self.where(world, LACKS), [[0, 1], [0, 1], [0, 1], [0, 1]])

    def test_state_with_a_step_to_itself(self):
        self.assertEqual(self.where(World(1, 1, [[0]], [(0, 0, 0)]), HAS), [[0], [0], [0], [0]])
        self.assertEqual(self.where(World(1, 1, [[]], [(0, 0, 0)]), HAS), [[], [], [], []])

    def test_ring(self):
        world = World(1, 1, [[0], [], []], [(0, 0, 1), (1, 0, 2), (2, 0, 0)])
        self.assertEqual(self.where(world, HAS), [[0, 1, 2], [0, 1, 2], [], []])

    def test_one_label_alone(self):
        world = World(3, 1, [[0], []], [(0, 0, 0), (0, 1, 1), (1, 1, 1), (1, 2, 0)])
        self.assertEqual(self.where(world, HAS, 0), [[0], [0, 1], [0], [0, 1]])
        self.assertEqual(self.where(world, HAS, 1), [[], [], [], []])
        self.assertEqual(self.where(world, HAS, 2), [[], [0, 1], [], [0, 1]])

    def test_statements_with_binders(self):
        world = (1, 1, [[0], [], [], [0]], [(0, 0, 1), (1, 0, 0), (1, 0, 2), (2, 0, 2), (2, 0, 3)])
        for text in ("nu x0. p0 & <0> x0", "mu x1. p0 | <0> x1", "nu x0. mu x1. <0> (p0 & x0 | x1)",
                     "[0] (mu x0. [0] x0)", "true", "false"):
            self.check(world, parse_statement(text))

    def test_one_within_another(self):
        parts = (2, 1, [[0], [], []], [(0, 0, 1), (1, 0, 0), (1, 1, 2), (2, 1, 1), (2, 0, 2)])
        for function in (again_somewhere, again_everywhere, last_somewhere, last_everywhere):
            for inner in (0, 1):
                self.check(parts, function(inner, HAS), 1 - inner)

    def test_all_small_worlds(self):
        for parts in small_worlds():
            for statement in (HAS, LACKS, ("some", 0, HAS), ("true",), ("false",)):
                self.check(parts, statement)

    def test_random(self):
        rng = generator(321)
        for _ in range(500):
            parts = random_world(rng, rng.randint(1, 5), chance=rng.choice((0.1, 0.2, 0.4)))
            self.check(parts, random_statement(rng, rng.randint(1, 8)), rng.randrange(3))
