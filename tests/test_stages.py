"""Points 12 and 13: where statements are true, and stages."""

import unittest

from fixworlds.errors import NotClosed
from fixworlds.guards import guarded
from fixworlds.stages import stages, truth
from fixworlds.statements import opposite, unfolded
from fixworlds.texts import parse_statement
from fixworlds.worlds import World
from tests.reference import generator, meaning, random_statement, random_world

UNTIL = ("least", 0, ("or", ("has", 0), ("some", 0, ("var", 0))))


def plain_stages(states, steps, statement):
    """The stages as point 13 tells them."""
    kind, variable, scope = statement
    every = set(range(len(states)))
    reached = set() if kind == "least" else every
    found = [0] * len(states)
    for many in range(1, len(states) + 2):
        following = meaning(states, steps, scope, {variable: reached})
        for state in every:
            if found[state] == 0 and (state in following) == (kind == "least"):
                found[state] = many
        reached = following
    return tuple(found)


class Truth(unittest.TestCase):
    def check(self, text, world, expected):
        self.assertEqual(truth(world, parse_statement(text)), expected)

    def test_example(self):
        world = World(1, 1, [[], [], [0]], [(0, 0, 1), (1, 0, 2)])
        self.assertEqual((truth(world, UNTIL), stages(world, UNTIL)), ([0, 1, 2], (3, 2, 1)))

    def test_each_word(self):
        world = World(2, 2, [[0], [1], [0, 1], []], [(0, 0, 1), (0, 0, 2), (1, 1, 1), (2, 0, 3)])
        for text, expected in [
            ("true", [0, 1, 2, 3]), ("false", []), ("p0", [0, 2]), ("!p0", [1, 3]), ("p5", []),
            ("!p5", [0, 1, 2, 3]), ("p0 & p1", [2]), ("p0 | p1", [0, 1, 2]), ("<0> p1", [0]),
            ("[0] p1", [0, 1, 3]), ("<0> p0", [0]), ("[0] p0", [1, 3]), ("<1> p1", [1]),
            ("[1] false", [0, 2, 3]), ("<2> true", []), ("[2] false", [0, 1, 2, 3]),
            ("mu x0. x0", []), ("nu x0. x0", [0, 1, 2, 3]), ("mu x0. p0", [0, 2]),
            ("nu x5. <1> x5", [1]), ("mu x5. [0] x5", [0, 1, 2, 3]), ("mu x5. [1] x5", [0, 2, 3]),
        ]:
            with self.subTest(text):
                self.check(text, world, expected)

    def test_fixed_points_within_one_another(self):
        # 0 and 1 go round, and have p0 again and again at 0; 2 leads there, 3 goes round alone.
        world = World(1, 1, [[0], [], [], []],
                      [(0, 0, 1), (1, 0, 0), (2, 0, 2), (2, 0, 0), (3, 0, 3)])
        self.check("nu x0. mu x1. <0> (p0 & x0 | x1)", world, [0, 1, 2])
        self.check("nu x0. mu x1. [0] (p0 & x0 | x1)", world, [0, 1])
        self.check("mu x0. nu x1. <0> (p0 & x0 | !p0 & x1)", world, [2, 3])
        self.check("mu x0. nu x1. [0] (p0 & x0 | !p0 & x1)", world, [3])

    def test_binder_of_a_variable_within_one_of_the_same(self):
        world = World(1, 1, [[0], []], [(0, 0, 1), (1, 0, 0)])
        self.check("nu x0. (mu x0. p0 | <0> x0) & [0] x0", world, [0, 1])
        self.check("mu x0. (nu x0. <0> x0) & p0 | <0> x0", world, [0, 1])

    def test_one_state(self):
        self.check("nu x0. <0> x0", World(1, 0, [[]], [(0, 0, 0)]), [0])
        self.check("nu x0. <0> x0", World(1, 0, [[]], []), [])
        self.check("mu x0. [0] x0", World(1, 0, [[]], []), [0])
        self.check("mu x0. [0] x0", World(1, 0, [[]], [(0, 0, 0)]), [])

    def test_random(self):
        rng = generator(21)
        for _ in range(1000):
            statement = random_statement(rng, rng.randint(1, 22))
            labels, facts, states, steps = random_world(
                rng, rng.randint(1, 5), chance=rng.choice((0.1, 0.3, 0.6)))
            world = World(labels, facts, states, steps)
            expected = sorted(meaning(states, steps, statement, {}))
            self.assertEqual(truth(world, statement), expected)
            left = [state for state in range(len(states)) if state not in expected]
            self.assertEqual(truth(world, opposite(statement)), left)
            self.assertEqual(truth(world, guarded(statement)), expected)

    def test_binders_change_kind_forty_times(self):
        statement = ("some", 0, ("var", 0))
        for variable in range(1, 13):
            statement = (("and", "or")[variable & 1], statement, ("all", 0, ("var", variable)))
        for variable in range(13, 39):
            statement = (("least", "most")[variable & 1], variable - 13, statement)
        world = World(1, 0, [[]] * 6, [(at, 0, (at * at + 1) % 6) for at in range(6)])
        found = truth(world, statement)
        self.assertEqual(truth(world, unfolded(statement)), found)

    def test_four_hundred_states(self):
        ring = World(1, 1, [[0]] + [[]] * 399, [(at, 0, (at + 1) % 400) for at in range(400)])
        self.assertEqual(truth(ring, UNTIL), list(range(400)))
        self.check("nu x0. mu x1. [0] (p0 & x0 | x1)", ring, list(range(400)))
        self.assertEqual(stages(ring, UNTIL), (1,) + tuple(range(400, 1, -1)))

    def test_is_a_new_list(self):
        world = World(1, 1, [[0]], [])
        truth(world, ("has", 0)).append(9)
        self.assertEqual(truth(world, ("has", 0)), [0])

    def test_not_closed(self):
        world = World(1, 0, [[]], [])
        for statement in [("var", 0), ("or", ("least", 1, ("var", 1)), ("var", 1))]:
            self.assertRaises(NotClosed, truth, world, statement)


class Stages(unittest.TestCase):
    def test_least(self):
        world = World(1, 1, [[], [0], [], []], [(0, 0, 1), (2, 0, 0), (3, 0, 3)])
        self.assertEqual(stages(world, UNTIL), (2, 1, 3, 0))

    def test_most(self):
        world = World(1, 1, [[], [0], [], []], [(0, 0, 1), (2, 0, 0), (3, 0, 3)])
        self.assertEqual(stages(world, opposite(UNTIL)), (2, 1, 3, 0))
        self.assertEqual(stages(world, ("most", 4, ("some", 0, ("var", 4)))), (2, 1, 3, 0))

    def test_variable_right_behind_its_binder_or_not_there(self):
        world = World(1, 1, [[0], []], [])
        for kind in ("least", "most"):
            self.assertEqual(stages(world, (kind, 9, ("var", 9))), (0, 0))
        self.assertEqual(stages(world, ("least", 9, ("has", 0))), (1, 0))
        self.assertEqual(stages(world, ("most", 9, ("has", 0))), (0, 1))

    def test_random(self):
        rng = generator(22)
        for _ in range(500):
            scope = random_statement(rng, rng.randint(1, 14), bound=(1,))
            statement = (rng.choice(("least", "most")), 1, scope)
            labels, facts, states, steps = random_world(rng, rng.randint(1, 5))
            self.assertEqual(
                stages(World(labels, facts, states, steps), statement),
                plain_stages(states, steps, statement))
