"""Point 9: guarded statements."""

import unittest

from fixworlds.errors import NotClosed
from fixworlds.guards import guarded, is_guarded
from fixworlds.texts import parse_statement
from tests.reference import (
    free_in, generator, guarded_under, meaning, random_statement, random_world, size,
)

GUARDED = [
    "true", "p0 & !p5", "mu x0. p0 | <0> x0", "nu x0. [2] (x0 & p0)", "mu x0. p1",
    "mu x0. <0> (nu x0. [1] x0)", "nu x0. mu x1. <0> (x0 | x1)", "mu x0. [0] (mu x1. <1> x1 | x0)",
    "<0> (mu x5. [0] x5)", "mu x99. p0 & (nu x99. <0> x99) | [1] x99",
]
UNGUARDED = [
    "mu x0. x0", "nu x0. x0", "mu x0. p0 | x0", "nu x0. <0> x0 & x0", "<0> (mu x0. x0)",
    "mu x0. <0> (nu x1. x1 & x0)", "mu x0. nu x1. x0 | <0> x1", "mu x0. nu x0. x0",
    "mu x0. p0 & (nu x1. [0] x1 | x0)", "[1] (nu x3. p0 & (mu x4. x3 & <0> x4))",
]


def bound_by(many, operand):
    """An operand within so many binders of different variables, of both kinds in turn."""
    for variable in reversed(range(many)):
        operand = (("least", "most")[variable & 1], variable, operand)
    return operand


class IsGuarded(unittest.TestCase):
    def test_guarded(self):
        for text in GUARDED:
            with self.subTest(text):
                self.assertIs(is_guarded(parse_statement(text)), True)

    def test_not_guarded(self):
        for text in UNGUARDED:
            with self.subTest(text):
                self.assertIs(is_guarded(parse_statement(text)), False)

    def test_step_around_the_binder_guards_nothing(self):
        self.assertIs(is_guarded(("all", 0, ("least", 0, ("var", 0)))), False)

    def test_random(self):
        rng = generator(5)
        for _ in range(500):
            statement = random_statement(rng, rng.randint(1, 14))
            self.assertIs(is_guarded(statement), guarded_under(statement, set()))


class Guarded(unittest.TestCase):
    def check(self, statement, rng):
        result = guarded(statement)
        self.assertEqual(free_in(result), set())
        self.assertTrue(guarded_under(result, set()))
        self.assertTrue(is_guarded(result))
        for _ in range(4):
            labels, facts, states, steps = random_world(rng, rng.randint(1, 4))
            self.assertEqual(
                meaning(states, steps, result, {}), meaning(states, steps, statement, {}))

    def test_guarded_ones_are_returned_themselves(self):
        for text in GUARDED:
            statement = parse_statement(text)
            self.assertEqual(guarded(statement), statement)

    def test_texts(self):
        rng = generator(6)
        for text in UNGUARDED:
            with self.subTest(text):
                self.check(parse_statement(text), rng)

    def test_only_the_binder_itself_is_asked_for(self):
        self.assertEqual(meaning([[]], [], guarded(("least", 4, ("var", 4))), {}), set())
        self.assertEqual(meaning([[]], [], guarded(("most", 4, ("var", 4))), {}), {0})

    def test_random(self):
        rng = generator(7)
        for _ in range(400):
            self.check(random_statement(rng, rng.randint(2, 13)), rng)

    def test_both_guarded_and_unguarded_in_nested_binders(self):
        rng = generator(8)
        for text in [
            "mu x0. nu x1. (p0 & x0 | <0> x0) & (p1 | x1) | <1> (x0 & x1)",
            "nu x0. mu x1. nu x2. (p0 & x0 | x1 & p1 | <0> x2) & (x2 | [0] (x0 | x1))",
            "nu x0. p0 & x0 | (mu x1. <0> x0 | p1 & x1 | (nu x2. x0 & [1] x1 | x2 & <1> x2))",
            "mu x0. <0> x0 | (nu x1. x0 & p0 | <1> (x1 & (mu x2. x1 | x2 | <0> x0)))",
        ]:
            with self.subTest(text):
                for _ in range(5):
                    self.check(parse_statement(text), rng)

    def test_stays_small_where_binders_follow_one_another(self):
        operand = ("true",)
        for variable in range(20):
            operand = ("and", operand, ("or", ("var", variable), ("some", 0, ("var", variable))))
        statement = bound_by(20, operand)
        result = guarded(statement)
        self.assertTrue(is_guarded(result))
        self.assertLess(size(result), 5000)

    def test_not_closed(self):
        for statement in [("var", 0), ("some", 0, ("var", 1)), ("least", 0, ("var", 1)),
                          ("and", ("least", 0, ("var", 0)), ("var", 0))]:
            self.assertRaises(NotClosed, guarded, statement)
