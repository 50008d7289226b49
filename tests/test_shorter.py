"""Point 30: shorter statements."""

import itertools
import unittest

from fixworlds.shorter import is_plain, shortened
from fixworlds.stages import truth
from fixworlds.worlds import World
from tests.reference import free_in, generator, random_statement, random_world, size, small_worlds

TRUE, FALSE = ("true",), ("false",)
P, Q, X = ("has", 0), ("lacks", 1), ("var", 7)
STEP = ("some", 0, P)


def results(statement):
    """The results of all rules that can be applied to a whole statement, read off point 30."""
    word = statement[0]
    if word in ("and", "or"):
        other, neutral, deciding = ("or", TRUE, FALSE) if word == "and" else ("and", FALSE, TRUE)
        for left, right in (statement[1:], statement[:0:-1]):
            if left == neutral:
                yield right
            if left == deciding:
                yield deciding
            if left == right:
                yield left
            if right[0] == other and left in right[1:]:
                yield left
    if word == "some" and statement[2] == FALSE:
        yield FALSE
    if word == "all" and statement[2] == TRUE:
        yield TRUE
    if word in ("least", "most"):
        if statement[1] not in free_in(statement[2]):
            yield statement[2]
        if statement[2] == ("var", statement[1]):
            yield FALSE if word == "least" else TRUE


def plain_shortened(statement):
    """The shortened statement, part by part."""
    inner = tuple(plain_shortened(part) if isinstance(part, tuple) else part for part in statement)
    return next(results(inner), inner)


def parts_in(statement):
    """All parts of a statement."""
    yield statement
    for part in statement[1:]:
        if isinstance(part, tuple):
            yield from parts_in(part)


def all_statements(many):
    """Statements with at most so many parts, over a few small ones."""
    levels = {1: [TRUE, FALSE, P, ("var", 0), ("var", 1)]}
    for size_ in range(2, many + 1):
        made = []
        for inner in levels[size_ - 1]:
            made += [("some", 0, inner), ("all", 1, inner), ("least", 0, inner), ("most", 1, inner)]
        for left in range(1, size_ - 1):
            for pair in itertools.product(levels[left], levels[size_ - 1 - left]):
                made += [("and",) + pair, ("or",) + pair]
        levels[size_] = made
    return [statement for level in levels.values() for statement in level]


class Rules(unittest.TestCase):
    def check(self, statement, expected):
        self.assertIs(is_plain(statement), statement == expected)
        self.assertEqual(shortened(statement), expected)
        self.assertIs(is_plain(expected), True)

    def test_example(self):
        self.check(("least", 0, ("or", ("has", 1), ("and", FALSE, ("var", 0)))), ("has", 1))

    def test_true_and_false(self):
        for part in (P, Q, X, STEP, ("and", P, X), ("or", P, X), ("least", 3, ("some", 0, ("var", 3)))):
            for left, right in ((TRUE, part), (part, TRUE)):
                self.check(("and", left, right), part)
                self.check(("or", left, right), TRUE)
            for left, right in ((FALSE, part), (part, FALSE)):
                self.check(("and", left, right), FALSE)
                self.check(("or", left, right), part)
        for word, expected in (("and", FALSE), ("or", TRUE)):
            self.check((word, TRUE, FALSE), expected)
            self.check((word, FALSE, TRUE), expected)
            self.check((word, TRUE, TRUE), TRUE)
            self.check((word, FALSE, FALSE), FALSE)

    def test_equal_parts(self):
        for part in (P, X, ("and", P, Q), ("or", P, Q), ("most", 1, ("all", 2, ("var", 1)))):
            self.check(("and", part, part), part)
            self.check(("or", part, part), part)

    def test_parts_that_say_the_same_but_differ(self):
        for left, right in ((("least", 0, ("some", 0, ("var", 0))), ("least", 1, ("some", 0, ("var", 1)))),
                            (("and", P, Q), ("and", Q, P)), (P, ("lacks", 0)), (("var", 1), ("var", 2))):
            for word in ("and", "or"):
                self.check((word, left, right), (word, left, right))

    def test_steps(self):
        for label in (0, 1, 2):
            self.check(("some", label, FALSE), FALSE)
            self.check(("all", label, TRUE), TRUE)
            self.check(("some", label, TRUE), ("some", label, TRUE))
            self.check(("all", label, FALSE), ("all", label, FALSE))

    def test_binders(self):
        for kind, own in (("least", FALSE), ("most", TRUE)):
            self.check((kind, 4, ("var", 4)), own)
            self.check((kind, 4, ("var", 5)), ("var", 5))
            self.check((kind, 4, P), P)
            self.check((kind, 4, ("some", 1, X)), ("some", 1, X))
            inner = ("most", 4, ("some", 0, ("var", 4)))
            self.check((kind, 4, inner), inner)
            self.check((kind, 4, ("or", ("var", 4), inner)), (kind, 4, ("or", ("var", 4), inner)))

    def test_absorption(self):
        for f, g in ((P, Q), (STEP, X), (("and", P, X), Q), (("or", P, X), Q)):
            for outer, inner in (("and", "or"), ("or", "and")):
                for join in ((inner, f, g), (inner, g, f)):
                    self.check((outer, f, join), f)
                    self.check((outer, join, f), f)

    def test_no_absorption(self):
        for f, g, h in ((P, Q, X), (STEP, X, Q)):
            for outer, inner in (("and", "or"), ("or", "and")):
                for statement in ((outer, f, (outer, f, g)), (outer, (outer, f, g), f),
                                  (outer, f, (inner, g, h)), (outer, (inner, f, g), (inner, f, h)),
                                  (outer, f, (inner, (inner, f, g), h))):
                    self.check(statement, statement)

    def test_rules_that_come_about_within(self):
        cases = [
            (("and", ("some", 0, FALSE), X), FALSE),
            (("or", X, ("some", 1, ("and", P, FALSE))), X),
            (("all", 0, ("all", 1, ("most", 2, ("var", 2)))), TRUE),
            (("least", 0, ("and", ("var", 0), ("all", 0, TRUE))), FALSE),
            (("most", 0, ("or", ("var", 0), ("least", 1, ("var", 1)))), TRUE),
            (("least", 0, ("or", P, ("least", 1, ("and", ("var", 1), ("var", 1))))), P),
            (("and", ("or", P, FALSE), ("and", P, TRUE)), P),
            (("or", ("and", P, P), ("and", ("or", Q, Q), P)), P),
            (("and", ("some", 0, ("or", P, FALSE)), ("or", Q, ("some", 0, P))), STEP),
            (("least", 0, ("most", 1, ("least", 2, ("var", 0)))), FALSE),
            (("most", 0, ("least", 1, ("var", 0))), TRUE),
        ]
        for statement, expected in cases:
            self.check(statement, expected)

    def test_one_rule_is_applied_to_the_whole(self):
        inner = ("or", P, X)
        self.check(("and", TRUE, ("and", inner, ("or", inner, Q))), inner)
        # In the whole no rule holds, though a rule holds in a part.
        self.assertIs(is_plain(("some", 0, ("and", P, ("all", 1, TRUE)))), False)
        self.assertIs(is_plain(("and", TRUE, P)), False)
        self.assertIs(is_plain(("most", 5, ("some", 0, ("or", ("var", 5), FALSE)))), False)

    def test_arguments_may_be_large(self):
        chain = P
        for _ in range(600):
            chain = ("some", 0, ("and", chain, TRUE))
        self.assertIs(is_plain(chain), False)
        short = shortened(chain)
        self.assertIs(is_plain(short), True)
        for _ in range(600):
            self.assertEqual(short[:2], ("some", 0))
            short = short[2]
        self.assertEqual(short, P)


class AgainstDefinitions(unittest.TestCase):
    def check(self, statement):
        short = shortened(statement)
        self.assertEqual(short, plain_shortened(statement))
        self.assertIs(is_plain(short), True)
        self.assertIs(is_plain(statement), not any(True for part in parts_in(statement) for _ in results(part)))
        self.assertLessEqual(size(short), size(statement))
        self.assertLessEqual(free_in(short), free_in(statement))
        return short

    def test_all_small_statements(self):
        for statement in all_statements(4):
            self.check(statement)
            inner = tuple(plain_shortened(part) if isinstance(part, tuple) else part for part in statement)
            self.assertLessEqual(len(set(results(inner))), 1)

    def test_truth_in_all_small_worlds(self):
        worlds = [World(*parts) for parts in small_worlds()]
        rng = generator(201)
        for _ in range(150):
            statement = random_statement(rng, rng.randint(2, 14), labels=1, facts=1)
            short = self.check(statement)
            for world in worlds:
                self.assertEqual(truth(world, short), truth(world, statement))

    def test_random(self):
        rng = generator(202)
        for _ in range(1500):
            statement = random_statement(rng, rng.randint(1, 40), facts=1)
            short = self.check(statement)
            world = World(*random_world(rng, rng.randint(1, 4)))
            self.assertEqual(truth(world, short), truth(world, statement))

    def test_random_with_free_variables(self):
        rng = generator(203)
        for _ in range(1500):
            self.check(random_statement(rng, rng.randint(1, 24), labels=1, facts=1, free=(0, 1, 8)))
