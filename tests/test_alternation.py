"""Point 36: alternation."""

import unittest

from fixworlds.alternation import alternation
from fixworlds.errors import NotClosed
from fixworlds.statements import opposite, tidy
from fixworlds.texts import parse_statement
from tests.reference import free_in, generator, random_statement


def binders_in(statement):
    """All binders that are parts of a statement."""
    found = [statement] if statement[0] in ("least", "most") else []
    for part in statement[1:]:
        if isinstance(part, tuple):
            found += binders_in(part)
    return found


def plain_alternation(statement):
    """The alternation of a tidy statement, word by word as in point 36."""
    inner = [plain_alternation(part) for part in statement[1:] if isinstance(part, tuple)]
    if statement[0] not in ("least", "most"):
        return max(inner, default=0)
    other = "most" if statement[0] == "least" else "least"
    speaking = [1 + plain_alternation(part) for part in binders_in(statement[2])
                if part[0] == other and statement[1] in free_in(part)]
    return max([1] + inner + speaking)


class Alternation(unittest.TestCase):
    def check(self, text, expected):
        statement = parse_statement(text)
        self.assertEqual(alternation(statement), expected)
        self.assertEqual(alternation(opposite(statement)), expected)
        self.assertEqual(plain_alternation(tidy(statement)), expected)

    def test_examples(self):
        again = ("most", 0, ("least", 1, ("some", 0, ("or", ("and", ("has", 0), ("var", 0)), ("var", 1)))))
        self.assertEqual(alternation(again), 2)
        apart = ("most", 0, ("and", ("least", 1, ("some", 0, ("var", 1))), ("all", 0, ("var", 0))))
        self.assertEqual(alternation(apart), 1)

    def test_without_binders(self):
        for text in ("true", "false", "p0", "!p5", "<0> [1] p0", "p0 & !p1 | [2] (true | <0> false)"):
            self.check(text, 0)

    def test_one_kind_alone(self):
        self.check("mu x0. p0", 1)
        self.check("nu x0. x0", 1)
        self.check("mu x0. mu x1. <0> (x0 | x1)", 1)
        self.check("nu x0. <0> (nu x1. x0 & [0] (nu x2. x0 & x1 & <0> x2))", 1)

    def test_parts_beside_one_another(self):
        self.check("(mu x0. <0> x0) & (nu x1. <0> x1)", 1)
        self.check("(mu x0. <0> x0) | p0 & (nu x0. mu x1. <0> (x0 | x1))", 2)
        self.check("<0> (nu x0. mu x1. <0> (x0 | x1)) & [0] true", 2)

    def test_binder_of_the_other_kind_in_which_the_variable_is_not_free(self):
        self.check("mu x0. <0> x0 | (nu x1. <0> x1)", 1)
        self.check("nu x0. [0] x0 & (mu x1. p0 | <0> (nu x2. <0> x2))", 1)
        # The inner two alternate, the outer one does not with them.
        self.check("mu x0. <0> x0 | (nu x1. mu x2. <0> (x1 & p0 | x2))", 2)
        self.check("mu x0. nu x1. mu x2. <0> (x1 & p0 | x2)", 2)

    def test_kinds_that_change(self):
        self.check("nu x0. mu x1. nu x2. <0> (x0 | x1 & x2)", 3)
        self.check("mu x0. nu x1. mu x2. nu x3. <0> (x0 & x1 | x2 & x3)", 4)
        # The innermost speaks of its neighbour alone, this one of the next one, and so on.
        self.check("nu x0. mu x1. <0> x0 | (nu x2. <0> x1 & (mu x3. <0> (x2 | x3)))", 4)
        self.check("nu x0. mu x1. (nu x2. <0> (x1 & x2)) | <0> x0", 3)
        self.check("nu x0. mu x1. (nu x2. <0> x2) | <0> (x0 & x1)", 2)

    def test_binder_in_between_of_the_own_kind(self):
        # The outer variable is free in the innermost binder, through one of its own kind.
        self.check("mu x0. mu x1. nu x2. <0> (x0 | x2)", 2)
        self.check("mu x0. nu x1. nu x2. <0> (x0 | x2)", 2)
        self.check("mu x0. nu x1. <0> x1 & (mu x2. <0> (x0 | x2))", 2)
        self.check("mu x0. nu x1. <0> x1 & (mu x2. <0> (x0 | x1 & x2))", 3)

    def test_variable_that_is_bound_twice(self):
        self.check("mu x0. nu x0. <0> x0", 1)
        self.check("nu x0. mu x1. <0> (nu x0. mu x1. <0> (x0 | x1))", 2)
        self.check("mu x0. <0> x0 | (nu x1. <0> (mu x0. x0 | <0> x1))", 2)
        self.check("nu x5. mu x5. nu x5. <0> x5", 1)
        self.check("(mu x0. <0> x0) & (nu x0. <0> x0)", 1)

    def test_deep_rows_of_binders(self):
        statement = ("var", 0)
        for at in reversed(range(30)):
            inner = ("or", ("some", 0, statement), ("var", at))
            statement = ("most" if at % 2 else "least", at, inner)
        self.assertEqual(alternation(statement), 2)
        statement = ("true",)
        for at in reversed(range(30)):
            inner = ("or", ("some", 0, statement), ("var", max(at - 1, 0)))
            statement = ("most" if at % 2 else "least", at, inner)
        self.assertEqual(alternation(statement), 30)

    def test_random(self):
        rng = generator(311)
        found = set()
        for _ in range(2000):
            statement = random_statement(rng, rng.randint(1, 30))
            found.add(alternation(statement))
            self.assertEqual(alternation(statement), plain_alternation(tidy(statement)))
            self.assertEqual(alternation(opposite(statement)), alternation(statement))
        self.assertLessEqual({0, 1, 2}, found)

    def test_free_variables(self):
        for statement in (("var", 0), ("least", 1, ("some", 0, ("var", 0))),
                          ("or", ("least", 0, ("var", 0)), ("var", 0))):
            self.assertRaises(NotClosed, alternation, statement)
