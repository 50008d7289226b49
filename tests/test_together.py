"""Points 12, 16, 19, 22 and 30 together: all that tells where a statement is true says the same."""

import unittest

from fixworlds.debates import where_true
from fixworlds.guards import guarded
from fixworlds.likeness import classes, folded
from fixworlds.machines import accepted, machine_of
from fixworlds.shorter import shortened
from fixworlds.stages import truth
from fixworlds.statements import closure, opposite, tidy
from fixworlds.systems import solution, system_of
from fixworlds.texts import format_statement, parse_statement
from fixworlds.worlds import World
from tests.reference import generator, meaning, random_statement, random_world, small_worlds


def with_one_more(world, state):
    """The world with one state more that is like a state, and to which the same steps lead."""
    more = len(world.states)
    steps = list(world.steps)
    steps += [(more, label, end) for start, label, end in world.steps if start == state]
    steps += [(start, label, more) for start, label, end in steps if end == state]
    return World(world.labels, world.facts, world.states + (world.states[state],), steps)


class Together(unittest.TestCase):
    def check(self, world, statement):
        true_at = sorted(meaning(world.states, world.steps, statement, {}))
        self.assertEqual(truth(world, statement), true_at)
        self.assertEqual(where_true(world, statement), true_at)
        self.assertEqual(truth(world, shortened(statement)), true_at)
        self.assertEqual(truth(world, tidy(statement)), true_at)
        self.assertEqual(truth(world, opposite(opposite(statement))), true_at)
        others = [state for state in range(len(world.states)) if state not in true_at]
        self.assertEqual(truth(world, opposite(statement)), others)
        self.assertEqual(truth(world, parse_statement(format_statement(statement))), true_at)
        self.assertEqual(solution(world, system_of(statement))[0], true_at)
        form = guarded(statement)
        self.assertEqual(truth(world, form), true_at)
        if len(closure(form)) <= 15:
            self.assertEqual(accepted(machine_of(form), world), true_at)
        numbers = classes(world)
        self.assertEqual(
            truth(folded(world), statement), sorted({numbers[state] for state in true_at}))
        state = len(world.states) - 1
        larger = true_at + [state + 1] if state in true_at else true_at
        self.assertEqual(truth(with_one_more(world, state), statement), larger)

    def test_all_small_worlds(self):
        worlds = [World(*parts) for parts in small_worlds()]
        rng = generator(241)
        for _ in range(40):
            statement = random_statement(rng, rng.randint(3, 10), labels=1, facts=1)
            for world in worlds:
                self.check(world, statement)

    def test_random(self):
        rng = generator(242)
        for _ in range(400):
            statement = random_statement(rng, rng.randint(3, 20))
            self.check(World(*random_world(rng, rng.randint(1, 4))), statement)

    def test_long_run(self):
        world = World(1, 1, [[0], [], [], []], [(0, 0, 1), (1, 0, 0), (2, 0, 2), (2, 0, 0), (3, 0, 3)])
        for text in ("nu x0. mu x1. <0> (p0 & x0 | x1)", "mu x0. nu x1. [0] (p0 & x1 | x0)",
                     "nu x0. mu x1. (p0 & <0> x0) | <0> x1 | x1", "mu x3. nu x3. <0> x3 | p0 & x3"):
            self.check(world, parse_statement(text))
