"""Point 37: machines between two statements."""

import unittest

from fixworlds.between import machine_between
from fixworlds.closures import Closure
from fixworlds.deciding import follows
from fixworlds.equations import closed_statement
from fixworlds.errors import NotClosed, NotGuarded, TooLarge
from fixworlds.forgetting import forgetting_machine
from fixworlds.guards import guarded
from fixworlds.machines import accepted, equations_of_machine
from fixworlds.searches import decided_arena
from fixworlds.stages import truth
from fixworlds.statements import opposite
from fixworlds.texts import parse_statement
from fixworlds.worlds import World
from tests.reference import generator, guarded_under, random_statement, random_world, size, small_worlds


def facts_of(statement):
    """The set of the facts that a statement mentions."""
    if statement[0] in ("has", "lacks"):
        return {statement[1]}
    return set().union(*(facts_of(part) for part in statement[1:] if isinstance(part, tuple)))


def is_somewhere(statement):
    """True if a statement is true anywhere, whatever number of parts it has."""
    return decided_arena(Closure(statement))[1] == 0


def moved_facts(statement, shift):
    """A statement with greater facts."""
    if statement[0] in ("has", "lacks"):
        return (statement[0], statement[1] + shift)
    return tuple(moved_facts(part, shift) if isinstance(part, tuple) else part for part in statement)


def row_of(parts, last):
    """A statement with so many parts that has some steps, and a last one behind them."""
    statement = last
    for _ in range(parts - size(last)):
        statement = ("some", 0, statement)
    return statement


def some_world(rng):
    return World(*random_world(rng, rng.randint(1, 4), labels=2, facts=3, chance=rng.choice((0.2, 0.4))))


class Between(unittest.TestCase):
    worlds = [World(*parts) for parts in small_worlds()]

    def check_worlds(self, first, second, worlds):
        """Looks at the rows of a machine, and at what it accepts in some worlds."""
        machine = machine_between(first, second)
        self.assertIsNotNone(machine)
        common = facts_of(first) & facts_of(second)
        for row in machine.rows:
            self.assertLessEqual(facts_of(row), common)
        for world in worlds:
            found = set(accepted(machine, world))
            self.assertLessEqual(set(truth(world, first)), found)
            self.assertLessEqual(found, set(truth(world, second)))
        return machine

    def check(self, first, second):
        """Decides, too, whether the machine is between the statements in every world."""
        machine = self.check_worlds(first, second, self.worlds)
        statement = guarded(closed_statement(equations_of_machine(machine)))
        self.assertFalse(is_somewhere(("and", first, opposite(statement))))
        self.assertFalse(is_somewhere(("and", statement, opposite(second))))
        return machine

    def check_texts(self, first, second):
        return self.check(parse_statement(first), parse_statement(second))

    def test_facts_of_one_alone(self):
        for first, second in (
                ("p0 & p1", "p1 | p2"), ("p0 & p1", "p0"), ("p0", "p0 | p1"), ("p0", "p0"),
                ("p0 & p1 & !p2", "!p2 | p3 | p4"), ("<0> (p0 & p1)", "<0> (p1 | p2)"),
                ("[0] (p0 & p1)", "[0] (p1 | p2) | p3"), ("<0> p0 & [0] !p1", "<0> (!p1 | p2)"),
                ("<0> (p0 & p1) & <0> (!p0 & p1)", "<0> p1 & [1] (p2 | !p2)"),
                ("p0 & <1> (p1 & [1] p2)", "<1> (p1 | p3)")):
            with self.subTest(first):
                self.check_texts(first, second)

    def test_hidden_facts_that_count_steps(self):
        # The first fact changes with each step; so the second one is there at every other state.
        self.check_texts("nu x0. p0 & p1 & [0] (!p0 & [0] x0)", "nu x0. (p1 | p2) & [0] [0] x0")
        self.check_texts("nu x0. p0 & p1 & <0> (!p0 & <0> x0)", "nu x0. (p1 | p2) & <0> <0> x0")
        self.check_texts("p0 & (mu x0. p0 & <0> (!p0 & <0> x0) | p1)", "mu x0. p1 | p2 | <0> <0> x0")

    def test_long_run(self):
        self.check_texts("nu x0. mu x1. <0> (p0 & p1 & x0 | x1)", "nu x0. mu x1. <0> ((p1 | p2) & x0 | x1)")
        self.check_texts("mu x0. nu x1. [0] (p0 & p1 & x1 | x0)", "mu x0. nu x1. [0] ((p1 | p2) & x1 | x0)")
        self.check_texts("mu x0. p0 & p1 | [0] x0", "mu x0. p1 | p2 | [0] x0")
        self.check_texts("nu x0. p0 & p1 & <0> x0", "<0> <0> <0> (p1 | p2)")

    def test_first_true_nowhere(self):
        for first in ("false", "p0 & !p0", "mu x0. p1 & <0> x0", "<0> p1 & [0] !p1", "[0] false & <0> (p0 & p2)"):
            for second in ("p2", "false", "nu x0. p3 & <0> x0"):
                self.check_texts(first, second)

    def test_second_true_everywhere(self):
        for second in ("true", "p2 | !p2", "nu x0. [0] x0", "[0] (p1 | <0> true | [0] false)"):
            for first in ("p0", "true", "mu x0. p3 | <0> x0", "p0 & <0> (p0 & p3)"):
                self.check_texts(first, second)

    def test_no_common_fact(self):
        for first, second in (("p0 & <0> p1", "<0> true | p2"), ("<0> p0 & <0> !p0", "<0> (p1 | !p1)"),
                              ("nu x0. p0 & <0> x0", "p1 | <0> <0> (p2 | <0> true)"),
                              ("[0] (p0 & !p0) & p1", "nu x0. p2 & !p2 | [0] x0"),
                              ("mu x0. p0 & [0] false | <0> x0", "mu x0. [0] (p1 & !p1) | <0> x0")):
            with self.subTest(first):
                machine = self.check_texts(first, second)
                self.assertEqual(set().union(*map(facts_of, machine.rows)), set())

    def test_none_follows(self):
        for first, second in (("p0", "p1"), ("true", "p0"), ("p0", "false"), ("<0> true", "<1> true"),
                              ("p0 | p1", "p0"), ("mu x0. p0 | <0> x0", "p0 | <0> p0"),
                              ("nu x0. [0] x0 & p0", "nu x0. <0> x0"), ("true", "false")):
            self.assertIsNone(machine_between(parse_statement(first), parse_statement(second)))

    def test_each_side_may_be_written(self):
        # The first pair has facts of the first alone, the second one of the second alone.
        self.check_texts("p0 & (mu x0. p1 | <0> x0)", "mu x0. p1 | <0> x0")
        self.check_texts("mu x0. p1 | <0> x0", "p0 | (mu x0. p1 | <0> x0)")

    def test_second_that_is_forgotten_more_easily(self):
        # What is left of the first one without its own fact takes more than 400 states.
        first = parse_statement("mu x2. [0] (nu x3. [0] (<0> [0] [0] (p0 & x2 & x3) | <0> x3))")
        self.assertEqual(size(first), 15)
        self.assertRaises(TooLarge, forgetting_machine, first, 0)
        for second in ("true | p3", "nu x0. [0] x0 | p3", "p3 | [0] (<0> true | [0] false)"):
            machine = self.check_worlds(first, parse_statement(second), self.worlds)
            self.assertLessEqual(len(machine.rows), 400)

    def test_six_parts(self):
        rng = generator(341)
        done = followed = 0
        while done < 600:
            first = random_statement(rng, 6, facts=2)
            second = moved_facts(random_statement(rng, 6, facts=2), 1)
            if not guarded_under(("and", first, second), set()) or size(first) > 6 or size(second) > 6:
                continue
            done += 1
            if follows(first, second):
                followed += 1
                self.check_worlds(first, second, [some_world(rng) for _ in range(4)])
            else:
                self.assertIsNone(machine_between(first, second))
        self.assertGreater(followed, 30)

    def test_exactly_six_parts(self):
        for last, other in ((("and", ("has", 0), ("has", 1)), ("or", ("has", 1), ("has", 2))),
                            (("has", 0), ("has", 0)), (("false",), ("has", 3))):
            first, second = row_of(6, last), row_of(6 - size(last) + size(other), other)
            self.assertEqual((size(first), size(second)), (6, 6))
            self.check(first, second)

    def test_fifteen_parts_and_sixteen(self):
        last, other = ("and", ("has", 0), ("has", 1)), ("or", ("has", 1), ("has", 2))
        first, second = row_of(15, last), row_of(15, other)
        ring = World(1, 3, [[0, 1], [0], [1], [2]], [(at, 0, (at + 1) % 4) for at in range(4)])
        machine = self.check_worlds(first, second, [ring])
        self.assertEqual(accepted(machine, ring), [0, 2])
        for pair in ((row_of(16, last), second), (first, row_of(16, other)), (row_of(16, last), row_of(16, other)),
                     (("has", 0), row_of(16, last))):
            self.assertRaises(TooLarge, machine_between, *pair)

    def test_random(self):
        rng = generator(342)
        done = 0
        while done < 80:
            first = random_statement(rng, rng.randint(3, 10), labels=1, facts=2)
            second = moved_facts(random_statement(rng, rng.randint(3, 9), labels=1, facts=2), 1)
            if rng.random() < 0.5:
                second = ("or", second, moved_facts(first, 1) if rng.random() < 0.3 else ("lacks", 1))
            if not guarded_under(("and", first, second), set()) or max(size(first), size(second)) > 15:
                continue
            if facts_of(first) and follows(first, second):
                self.check_worlds(first, second, [some_world(rng) for _ in range(5)])
                done += 1

    def test_errors_in_their_order(self):
        wide, unguarded, open_one = row_of(16, ("has", 0)), ("least", 0, ("var", 0)), ("some", 0, ("var", 3))
        good = ("has", 0)
        for pair in ((open_one, good), (good, open_one), (unguarded, open_one), (open_one, unguarded),
                     (wide, open_one), (open_one, wide)):
            self.assertRaises(NotClosed, machine_between, *pair)
        for pair in ((unguarded, good), (good, unguarded), (wide, unguarded), (unguarded, wide),
                     (("and", wide, unguarded), wide)):
            self.assertRaises(NotGuarded, machine_between, *pair)
        for pair in ((wide, good), (good, wide), (wide, wide)):
            self.assertRaises(TooLarge, machine_between, *pair)
