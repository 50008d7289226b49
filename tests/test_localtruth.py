"""Point 35: local truth."""

import itertools
import unittest

from fixworlds.errors import NotClosed
from fixworlds.localtruth import is_true_at, is_true_without
from fixworlds.stages import truth
from fixworlds.texts import parse_statement
from fixworlds.worlds import World
from tests.reference import generator, meaning, random_statement, random_world, small_worlds

TEXTS = (
    "mu x0. p0 | <0> x0", "mu x0. p0 | [0] x0", "nu x0. p0 & <0> x0", "nu x0. p0 & [0] x0",
    "mu x0. x0", "nu x0. x0", "mu x0. <0> x0", "nu x0. <0> x0", "mu x0. true", "nu x0. false",
    "nu x0. mu x1. <0> (p0 & x0 | x1)", "mu x0. nu x1. [0] (p0 & x1 | x0)",
    "mu x0. nu x1. <0> x0 | p0 & [0] x1", "nu x0. mu x1. nu x2. <0> (x0 & p0 | x1 & x2)",
    "mu x0. p0 | <0> (nu x0. [0] x0 & !p0) | <0> x0", "nu x3. <0> (mu x3. p0 | [0] x3) & [0] x3",
)


def lists_of_states(many):
    """All lists of states."""
    for count in range(many + 1):
        yield from (list(chosen) for chosen in itertools.combinations(range(many), count))


def set_without(states, steps, binder, gone):
    """Where a binder without (or with) some states is true, as a fixed point of sets."""
    kind, variable, scope = binder
    reached = set() if kind == "least" else set(range(len(states)))
    while True:
        following = meaning(states, steps, scope, {variable: reached})
        following = following - gone if kind == "least" else following | gone
        if following == reached:
            return reached
        reached = following


class TrueAt(unittest.TestCase):
    def check(self, world, statement):
        found = [is_true_at(world, statement, state) for state in range(len(world.states))]
        true_at = meaning(world.states, world.steps, statement, {})
        self.assertEqual(found, [state in true_at for state in range(len(world.states))])
        self.assertEqual(truth(world, statement), sorted(true_at))

    def test_all_small_worlds(self):
        for parts in small_worlds():
            for text in TEXTS:
                self.check(World(*parts), parse_statement(text))

    def test_statements_without_binders(self):
        world = World(2, 2, [[0], [0, 1], []], [(0, 0, 1), (0, 1, 2), (1, 0, 1)])
        for text in ("true", "false", "p0", "!p0", "p5", "!p5", "p0 & !p1", "p1 | !p0", "<0> p1", "[0] p1",
                     "<2> true", "[2] false", "<1> [0] false", "<0> (p0 & <0> p1) | [1] p1"):
            self.check(world, parse_statement(text))

    def test_random(self):
        rng = generator(301)
        for _ in range(800):
            statement = random_statement(rng, rng.randint(1, 15))
            self.check(World(*random_world(rng, rng.randint(1, 4), chance=rng.choice((0.2, 0.5)))), statement)

    def test_binders_of_changing_kinds_in_full_worlds(self):
        steps = list(itertools.product(range(4), range(1), range(4)))
        for text in ("nu x0. mu x1. nu x2. [0] [0] (x0 & p0 | x1 & <0> x2 | <0> (x2 & !p0))",
                     "mu x0. nu x1. mu x2. <0> <0> ((x0 | p0) & (x1 | [0] x2) & [0] (x2 | !p0))"):
            for states in ([[0], [], [], []], [[0], [0], [0], []], [[0]] * 4):
                self.check(World(1, 1, states, steps), parse_statement(text))

    def test_a_long_way_round(self):
        # The question comes back to a variable far more often than calls can be nested.
        steps = [(at, 0, (at + 1) % 4) for at in range(4)]
        text = "nu x0. <0> (mu x1. <0> (p0 & x0 | (nu x2. <0> (!p0 & x1 | x2 & x1))))"
        self.check(World(1, 1, [[], [], [], [0]], steps), parse_statement(text))
        ring = World(1, 1, [[]] * 39 + [[0]], [(at, 0, (at + 1) % 40) for at in range(40)])
        self.check(ring, parse_statement("mu x0. p0 | <0> x0"))

    def test_free_variables(self):
        world = World(1, 0, [[]], [])
        for statement in (("var", 0), ("least", 1, ("some", 0, ("var", 0))),
                          ("or", ("true",), ("and", ("most", 2, ("var", 2)), ("var", 2)))):
            self.assertRaises(NotClosed, is_true_at, world, statement, 0)


class TrueWithout(unittest.TestCase):
    def check(self, world, binder):
        """Holds all lists of states against sets, and against what the point tells of one more state."""
        kind, variable, scope = binder
        every = range(len(world.states))
        found = {}
        for gone in lists_of_states(len(world.states)):
            expected = set_without(world.states, world.steps, binder, set(gone))
            for state in every:
                value = is_true_without(world, binder, state, gone)
                self.assertIs(value, state in expected)
                found[(state, frozenset(gone))] = value
        for (state, gone), value in found.items():
            asked = {other for other in every if found[(other, gone | {state})]}
            inner = state in meaning(world.states, world.steps, scope, {variable: asked})
            told = inner and state not in gone if kind == "least" else inner or state in gone
            self.assertIs(value, told)

    def test_all_small_worlds(self):
        binders = [parse_statement(text) for text in TEXTS]
        for parts in small_worlds():
            for binder in binders:
                self.check(World(*parts), binder)

    def test_random(self):
        rng = generator(302)
        for _ in range(200):
            variable = rng.randrange(3)
            scope = random_statement(rng, rng.randint(1, 12), bound=(variable,))
            binder = (rng.choice(("least", "most")), variable, scope)
            self.check(World(*random_world(rng, rng.randint(1, 4))), binder)

    def test_empty_list(self):
        world = World(1, 1, [[], [], [0], []], [(0, 0, 1), (1, 0, 2), (3, 0, 3)])
        for text in TEXTS:
            binder = parse_statement(text)
            true_at = truth(world, binder)
            for state in range(4):
                self.assertIs(is_true_without(world, binder, state, []), state in true_at)

    def test_the_state_itself_and_all_states(self):
        world = World(1, 1, [[0], [], [0]], [(0, 0, 1), (1, 0, 2), (2, 0, 0)])
        for text in TEXTS:
            binder = parse_statement(text)
            for state in range(3):
                for gone in ([state], [0, 1, 2]):
                    self.assertIs(is_true_without(world, binder, state, gone), binder[0] == "most")

    def test_a_state_on_the_way(self):
        world = World(1, 1, [[], [], [0]], [(0, 0, 1), (1, 0, 2)])
        until = parse_statement("mu x0. p0 | <0> x0")
        self.assertEqual([is_true_without(world, until, state, [1]) for state in range(3)], [False, False, True])
        always = parse_statement("nu x0. !p0 & [0] x0")
        self.assertEqual([is_true_without(world, always, state, [1]) for state in range(3)], [True, True, False])

    def test_inner_binders_are_asked_with_all_states(self):
        # Only the outer binder is asked without the state 1: the inner one passes it.
        world = World(1, 1, [[], [], [0]], [(0, 0, 1), (1, 0, 2)])
        binder = parse_statement("mu x0. <0> x0 | (mu x1. p0 | <0> x1)")
        self.assertEqual([is_true_without(world, binder, state, [1]) for state in range(3)], [True, False, True])
