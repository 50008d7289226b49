"""Points 27 and 28: machines that forget a fact."""

import itertools
import unittest
from unittest import mock

from fixworlds.closures import Closure
from fixworlds.deciding import follows
from fixworlds.errors import NotClosed, NotGuarded, TooLarge
from fixworlds.forgetting import forgetting_machine
from fixworlds.machines import accepted, other_machine
from fixworlds.portraits import portrait
from fixworlds.searches import decided_arena
from fixworlds.stages import truth
from fixworlds.texts import parse_statement
from fixworlds.worlds import World
from tests.reference import (
    free_in, generator, guarded_under, random_statement, random_world, shuffled_copy, size)


def mentions(statement, fact):
    """True if a statement mentions a fact."""
    return statement in (("has", fact), ("lacks", fact)) or any(
        mentions(part, fact) for part in statement[1:] if isinstance(part, tuple))


def without_fact(world, fact):
    """The world in which no state has a fact."""
    rows = [[p for p in row if p != fact] for row in world.states]
    return World(world.labels, world.facts, rows, world.steps)


def without_signs(statement, fact):
    """A statement in which nothing is asked of a fact that no state has."""
    if statement == ("lacks", fact):
        return ("true",)
    return tuple(without_signs(part, fact) if isinstance(part, tuple) else part for part in statement)


def is_true_but_for(statement, world, state, fact):
    """True if, in some world, the statement is true at a state like this one but for the fact."""
    likeness = without_signs(portrait(without_fact(world, fact), state, world.labels, world.facts), fact)
    _, winner, _ = decided_arena(Closure(("and", statement, likeness)))
    return winner == 0


def lines_of(parts):
    """A statement with so many parts that mentions fact 0 and is true where there are steps enough."""
    statement = ("has", 0)
    for _ in range(parts - 1):
        statement = ("some", 0, statement)
    return statement


class Forgetting(unittest.TestCase):
    def check(self, statement, world, fact=0):
        machine = forgetting_machine(statement, fact)
        self.assertFalse(any(mentions(row, fact) for row in machine.rows))
        found = accepted(machine, world)
        self.assertEqual(found, [
            state for state in range(len(world.states)) if is_true_but_for(statement, world, state, fact)])
        return found

    def test_facts_there_and_behind_a_step(self):
        world = World(1, 2, [[1], [0, 1], []], [(0, 0, 1), (0, 0, 2), (1, 0, 2)])
        for text, expected in [
                ("p0", [0, 1, 2]), ("p0 & p1", [0, 1]), ("p0 & !p0", []), ("p0 | p1", [0, 1, 2]),
                ("<0> p0", [0, 1]), ("<0> (p0 & p1)", [0]), ("<0> p0 & <0> !p0", [0, 1]),
                ("<0> p0 & [0] !p0", []), ("[0] (p0 & p1)", [2]), ("<0> <0> p0", [0]),
                ("[0] (p0 & <0> p0 | !p0 & p1)", [1 + 1]), ("mu x0. [0] (p0 & x0)", [0, 1, 2])]:
            with self.subTest(text):
                self.assertEqual(self.check(parse_statement(text), world), expected)

    def test_each_state_of_a_ring_can_stand_for_several(self):
        # The fact must change from state to state: this can be so on any ring.
        statement = parse_statement("nu x0. p0 & <0> (!p0 & <0> x0)")
        for many in (1, 2, 3):
            ring = World(1, 1, [[]] * many, [(at, 0, (at + 1) % many) for at in range(many)])
            self.assertEqual(self.check(statement, ring), list(range(many)))

    def test_long_run(self):
        world = World(1, 2, [[1], [], [], []], [(0, 0, 1), (1, 0, 0), (2, 0, 2), (3, 0, 0)])
        for text in ("nu x0. mu x1. <0> (p0 & p1 & x0 | x1)", "mu x0. p0 & p1 | [0] x0",
                     "nu x0. (p0 | p1) & [0] x0 & <0> true", "mu x0. nu x1. [0] (p0 & p1 & x1 | x0)",
                     "nu x0. (p0 & [0] !p0 | !p0 & p1) & [0] x0"):
            with self.subTest(text):
                self.check(parse_statement(text), world)

    def test_fact_that_is_not_mentioned(self):
        rng = generator(110)
        done = 0
        while done < 100:
            statement = random_statement(rng, rng.randint(1, 15))
            if guarded_under(statement, set()) and size(statement) <= 15:
                world = World(*random_world(rng, rng.randint(1, 4)))
                self.assertEqual(accepted(forgetting_machine(statement, 5), world), truth(world, statement))
                done += 1

    def test_like_but_for_the_fact(self):
        """What is true in a world is accepted wherever the fact is changed, and states stand twice."""
        rng = generator(111)
        done = 0
        while done < 60:
            statement = random_statement(rng, rng.randint(3, 10))
            if not guarded_under(statement, set()) or not mentions(statement, 0):
                continue
            machine = forgetting_machine(statement, 0)
            labels, facts, states, steps = shuffled_copy(rng, *random_world(rng, 2))
            wanted = set()
            for bits in itertools.product((False, True), repeat=len(states)):
                rows = [sorted(set(row) - {0} | ({0} if has else set())) for row, has in zip(states, bits)]
                wanted |= set(truth(World(labels, facts, rows, steps), statement))
            self.assertLessEqual(wanted, set(accepted(machine, World(labels, facts, states, steps))))
            done += 1

    def test_random(self):
        rng = generator(112)
        done = 0
        while done < 400:
            labels, facts = rng.choice((1, 2)), rng.choice((1, 2))
            statement = random_statement(rng, rng.randint(1, 10), labels=labels, facts=facts)
            if guarded_under(statement, set()) and size(statement) <= 10:
                parts = random_world(rng, rng.randint(1, 3), labels, facts, rng.choice((0.2, 0.4)))
                self.check(statement, World(*parts))
                done += 1

    def test_ten_fifteen_and_sixteen_parts(self):
        world = World(1, 1, [[]] * 16, [(at, 0, at + 1) for at in range(15)])
        for parts in (10, 15):
            self.assertEqual(size(lines_of(parts)), parts)
            self.assertEqual(
                accepted(forgetting_machine(lines_of(parts), 0), world), list(range(17 - parts)))
        self.assertRaises(TooLarge, forgetting_machine, lines_of(16), 0)
        self.assertRaises(TooLarge, forgetting_machine, lines_of(16), 1)

    def test_large_machines_of_ten_parts(self):
        for text in ("mu x0. <0> (p0 | [0] [0] [0] x0 & x0)", "mu x0. [0] [0] [0] (<0> x0 & x0) | p0",
                     "mu x0. !p0 | [0] (x0 & <0> [0] [0] x0)"):
            statement = parse_statement(text)
            self.assertEqual(size(statement), 10)
            self.check(statement, World(1, 1, [[], []], [(0, 0, 1), (1, 0, 1), (1, 0, 0)]))

    def test_large_arenas(self):
        """Where only some places of an arena are looked at, the machine accepts the same."""
        rng = generator(114)
        done = 0
        while done < 150:
            statement = random_statement(rng, rng.randint(3, 9))
            if guarded_under(statement, set()) and mentions(statement, 0):
                worlds = [World(*random_world(rng, rng.randint(1, 4))) for _ in range(3)]
                expected = [accepted(forgetting_machine(statement, 0), world) for world in worlds]
                for most in (0, 1, 4):
                    with mock.patch("fixworlds.forgetters.MOST_PLACES", most):
                        machine = forgetting_machine(statement, 0)
                    self.assertEqual([accepted(machine, world) for world in worlds], expected)
                done += 1

    def test_too_large_machine(self):
        statement = parse_statement(
            "mu x0. nu x1. [0] (mu x2. [0] [0] [0] <0> [0] (x1 & p0 & [0] x0))")
        self.assertLessEqual(size(statement), 15)
        try:
            self.assertLessEqual(len(forgetting_machine(statement, 0).rows), 400)
        except TooLarge:
            pass

    def test_what_follows(self):
        """Point 28, for statements that do not mention the fact."""
        world = World(1, 2, [[1], [], []], [(0, 0, 1), (1, 0, 0), (1, 0, 2), (2, 0, 2)])
        rng = generator(113)
        done = 0
        while done < 60:
            first = random_statement(rng, rng.randint(1, 9), labels=1)
            second = random_statement(rng, rng.randint(1, 6), labels=1)
            if mentions(second, 0) or not guarded_under(("and", first, second), set()):
                continue
            outside = set(accepted(forgetting_machine(first, 0), world)) - set(truth(world, second))
            if outside:
                self.assertIs(follows(first, second), False)
            done += 1

    def test_errors_in_their_order(self):
        unguarded = ("and", lines_of(20), ("most", 0, ("or", ("has", 0), ("var", 0))))
        self.assertRaises(NotClosed, forgetting_machine, ("or", unguarded, ("var", 1)), 0)
        self.assertRaises(NotGuarded, forgetting_machine, unguarded, 0)
        self.assertEqual(free_in(unguarded), set())
        self.assertEqual(other_machine(forgetting_machine(("has", 0), 0)).rows, (("false",),))
