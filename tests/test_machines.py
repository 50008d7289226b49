"""Point 23: machines."""

import unittest

from fixworlds.errors import InvalidMachine, NotClosed, NotGuarded, TooLarge
from fixworlds.guards import is_guarded
from fixworlds.machines import (
    Machine, accepted, joined_machine, machine_of, machine_statement, other_machine)
from fixworlds.stages import truth
from fixworlds.statements import closure
from fixworlds.texts import parse_statement
from fixworlds.worlds import World
from tests.reference import (
    free_in, generator, guarded_under, meaning, random_statement, random_world, size)

TRUE, FALSE = ("true",), ("false",)


def some(state):
    return ("some", 0, ("var", state))


def every(state):
    return ("all", 0, ("var", state))


def plain_accepted(machine, states, steps):
    """The states that a machine accepts, by sets for its states, those of great priorities outside."""
    levels = sorted(set(machine.priorities), reverse=True)

    def values(level, known):
        if level == len(levels):
            return {at: meaning(states, steps, row, known) for at, row in enumerate(machine.rows)}
        own = [at for at, priority in enumerate(machine.priorities) if priority == levels[level]]
        start = set() if levels[level] % 2 else set(range(len(states)))
        sets = {at: start for at in own}
        while True:
            found = values(level + 1, {**known, **sets})
            if all(found[at] == sets[at] for at in own):
                return found
            sets = {at: found[at] for at in own}

    return sorted(values(0, {})[machine.start])


def random_row(rng, parts, many, guarded=False):
    """A row of about so many parts, with variables below a number."""
    if parts <= 2 and (guarded or parts == 2) and rng.random() < 0.8:
        variable = ("var", rng.randrange(many))
        return variable if guarded else (rng.choice(("some", "all")), rng.randrange(2), variable)
    if parts <= 1:
        return rng.choice([TRUE, FALSE, ("has", rng.randrange(2)), ("lacks", rng.randrange(2))])
    if parts == 2 or rng.random() < 0.3:
        return (rng.choice(("some", "all")), rng.randrange(2), random_row(rng, parts - 1, many, True))
    left = rng.randint(1, parts - 2)
    return (rng.choice(("and", "or")), random_row(rng, left, many, guarded),
            random_row(rng, parts - 1 - left, many, guarded))


def random_machine(rng, most, parts=12):
    """A machine with at most so many states."""
    many = rng.randint(1, most)
    rows = [random_row(rng, rng.randint(1, parts), many) for _ in range(many)]
    return Machine(rng.randrange(many), rows, [rng.choice((0, 1, 2, 3, 198, 199)) for _ in range(many)])


class Machines(unittest.TestCase):
    def refuse(self, *parts):
        self.assertRaises(InvalidMachine, Machine, *parts)

    def test_attributes(self):
        rows, priorities = [some(1), TRUE], [3, 200]
        machine = Machine(1, rows, priorities)
        rows.append(FALSE)
        priorities[0] = 0
        self.assertEqual((machine.start, machine.rows, machine.priorities), (1, (some(1), TRUE), (3, 200)))

    def test_numbers_of_states(self):
        self.assertEqual(Machine(0, [TRUE], [0]).rows, (TRUE,))
        self.assertEqual(len(Machine(399, [some(399)] * 400, [200] * 400).rows), 400)
        self.refuse(0, [], [])
        self.refuse(0, [TRUE] * 401, [0] * 401)

    def test_start_and_priorities(self):
        for start in (-1, 2, 400):
            self.refuse(start, [TRUE] * 2, [0] * 2)
        for priority in (-1, 201):
            self.refuse(0, [TRUE] * 2, [0, priority])
        for priority in (0, 1, 199, 200):
            self.assertEqual(Machine(0, [TRUE], [priority]).priorities, (priority,))

    def test_lists_of_different_lengths(self):
        self.refuse(0, [TRUE], [0, 0])
        self.refuse(0, [TRUE] * 2, [0])
        self.refuse(0, [TRUE] * 2, [])

    def test_rows(self):
        self.refuse(0, [some(1)], [0])
        self.refuse(0, [TRUE, some(-1)], [0, 0])
        for row in (("var", 0), ("and", some(0), ("var", 0)), ("or", ("or", ("var", 0), TRUE), every(0))):
            self.refuse(0, [row], [0])
        for row in (("least", 0, TRUE), ("and", TRUE, ("some", 0, ("most", 1, ("var", 1))))):
            self.refuse(0, [TRUE, row], [0, 0])
        deep = ("some", 1, ("and", ("var", 0), ("or", ("var", 1), ("all", 2, ("var", 1)))))
        self.assertEqual(Machine(0, [deep, FALSE], [0, 0]).rows, (deep, FALSE))


class Accepted(unittest.TestCase):
    def test_row_of_true_or_false_alone(self):
        world = World(1, 0, [[], []], [(0, 0, 1)])
        for priority in (0, 1):
            self.assertEqual(accepted(Machine(0, [TRUE], [priority]), world), [0, 1])
            self.assertEqual(accepted(Machine(0, [FALSE], [priority]), world), [])

    def test_priorities(self):
        world = World(1, 0, [[], []], [(0, 0, 0)])
        for priority in (0, 1, 199, 200):
            machine = Machine(0, [some(0)], [priority])
            self.assertEqual(accepted(machine, world), [] if priority % 2 else [0])
            machine = Machine(0, [every(0)], [priority])
            self.assertEqual(accepted(machine, world), [1] if priority % 2 else [0, 1])
            # What is visited once does not count.
            machine = Machine(1, [some(0), some(0)], [200 - priority % 2, priority])
            self.assertEqual(accepted(machine, world), [] if (200 - priority) % 2 else [0])

    def test_greatest_priority_decides(self):
        ring = World(1, 1, [[0], []], [(0, 0, 1), (1, 0, 0)])
        for first in range(5):
            for second in range(5):
                machine = Machine(0, [some(1), some(0)], [first, second])
                self.assertEqual(accepted(machine, ring), [] if max(first, second) % 2 else [0, 1])

    def test_labels_and_facts_that_are_not_there(self):
        world = World(1, 0, [[]], [(0, 0, 0)])
        self.assertEqual(accepted(Machine(0, [("all", 2, ("var", 0))], [1]), world), [0])
        self.assertEqual(accepted(Machine(0, [("some", 2, ("var", 0))], [0]), world), [])
        self.assertEqual(accepted(Machine(0, [("has", 5)], [0]), world), [])

    def test_random(self):
        rng = generator(80)
        for _ in range(500):
            machine = random_machine(rng, 4)
            labels, facts, states, steps = random_world(rng, rng.randint(1, 4))
            self.assertEqual(
                accepted(machine, World(labels, facts, states, steps)),
                plain_accepted(machine, states, steps))

    def test_large(self):
        world = World(1, 1, [[0]] + [[]] * 399, [(at, 0, (at + 1) % 400) for at in range(400)])
        rows = [("or", ("and", ("has", 0), some(at)), some((at + 1) % 400)) for at in range(400)]
        self.assertEqual(accepted(Machine(7, rows, [at % 201 for at in range(400)]), world), list(range(400)))


class MachineOf(unittest.TestCase):
    def check(self, statement, world):
        machine = machine_of(statement)
        self.assertEqual(accepted(machine, world), truth(world, statement))
        self.assertLessEqual(sum(size(row) for row in machine.rows), 20 * size(statement))

    def test_binders_of_each_kind_within_the_other(self):
        world = World(1, 1, [[0], [], [], []], [(0, 0, 1), (1, 0, 0), (2, 0, 2), (2, 0, 0), (3, 0, 3)])
        for text in ("nu x0. mu x1. <0> (p0 & x0 | x1)", "nu x0. mu x1. [0] (p0 & x0 | x1)",
                     "mu x0. nu x1. <0> (p0 & x0 | !p0 & x1)", "mu x0. nu x1. [0] (p0 & x0 | !p0 & x1)",
                     "true", "false", "p0 & <0> [0] !p0", "mu x0. nu x1. <0> x0 & [0] x1",
                     "nu x0. <0> (mu x1. x0 & p0 | <0> x1)", "<0> (nu x0. <0> (x0 & x0))"):
            with self.subTest(text):
                self.check(parse_statement(text), world)

    def test_random(self):
        rng = generator(81)
        done = 0
        while done < 600:
            statement = random_statement(rng, rng.randint(1, 24))
            if guarded_under(statement, set()) and len(closure(statement)) <= 15:
                self.check(statement, World(*random_world(rng, rng.randint(1, 4))))
                done += 1

    def test_variables_that_many_rows_unfold(self):
        world = World(1, 1, [[0], [], []], [(0, 0, 1), (1, 0, 2), (2, 0, 0), (1, 0, 1)])
        for text in (
                "nu x0. mu x1. nu x2. mu x3. <0> (x0 | x1 | x2) & <0> (x0 & (x1 | x3)) & <0> (x2 & x3)",
                "mu x0. nu x1. mu x2. nu x3. mu x4. <0> x0 & <0> x1 & <0> x2 & <0> x3 & <0> x4",
                "mu x0. nu x1. [0] (mu x2. x0 & x1 | <0> (x2 & (x0 | x1))) & <0> (x0 | x1)"):
            self.check(parse_statement(text), world)

    def test_fifteen_statements_and_sixteen(self):
        statement = ("has", 0)
        for _ in range(14):
            statement = ("some", 0, statement)
        self.assertEqual(len(closure(statement)), 15)
        self.check(statement, World(1, 1, [[]] * 14 + [[0]], [(at, 0, at + 1) for at in range(14)]))
        self.assertRaises(TooLarge, machine_of, ("all", 0, statement))

    def test_many_parts_but_few_statements(self):
        statement = ("or", ("has", 0), ("some", 0, ("var", 0)))
        for _ in range(4):
            statement = ("and", statement, statement)
        self.check(("least", 0, statement), World(1, 1, [[], [0]], [(0, 0, 1)]))

    def test_errors_in_their_order(self):
        wide = TRUE
        for _ in range(16):
            wide = ("some", 0, wide)
        open_one, unguarded = ("or", wide, ("var", 2)), ("and", wide, ("least", 0, ("var", 0)))
        self.assertRaises(NotClosed, machine_of, ("and", open_one, unguarded))
        self.assertRaises(NotGuarded, machine_of, unguarded)
        self.assertRaises(NotGuarded, machine_of, ("most", 0, ("or", ("var", 0), ("some", 0, ("var", 0)))))
        self.assertRaises(TooLarge, machine_of, wide)


class MachineStatement(unittest.TestCase):
    def test_random(self):
        rng = generator(82)
        for _ in range(300):
            machine = random_machine(rng, 4, 16)
            statement = machine_statement(machine)
            self.assertEqual(free_in(statement), set())
            world = World(*random_world(rng, rng.randint(1, 4)))
            self.assertEqual(truth(world, statement), accepted(machine, world))

    def test_four_states_and_five(self):
        rows = [("or", some(0), ("and", some(1), ("or", every(2), some(3))))] * 5
        ring = World(1, 1, [[0], []], [(0, 0, 1), (1, 0, 0)])
        machine = Machine(3, rows[:4], [4, 3, 2, 1])
        self.assertEqual(truth(ring, machine_statement(machine)), accepted(machine, ring))
        self.assertRaises(TooLarge, machine_statement, Machine(0, rows, [0] * 5))


class OtherMachine(unittest.TestCase):
    def test_parts(self):
        machine = Machine(1, [("and", some(1), ("has", 2)), FALSE], [0, 199])
        other = other_machine(machine)
        self.assertEqual((other.start, other.priorities), (1, (1, 200)))
        self.assertEqual(other.rows, (("or", every(1), ("lacks", 2)), TRUE))

    def test_random(self):
        rng = generator(83)
        for _ in range(200):
            machine = random_machine(rng, 5)
            world = World(*random_world(rng, rng.randint(1, 4)))
            both = accepted(machine, world) + accepted(other_machine(machine), world)
            self.assertEqual(sorted(both), list(range(len(world.states))))

    def test_priority_200(self):
        self.assertRaises(TooLarge, other_machine, Machine(0, [TRUE, TRUE], [0, 200]))


class JoinedMachine(unittest.TestCase):
    def test_random(self):
        rng = generator(84)
        for _ in range(200):
            first, second = random_machine(rng, 4), random_machine(rng, 4)
            world = World(*random_world(rng, rng.randint(1, 4)))
            found = set(accepted(first, world)), set(accepted(second, world))
            self.assertEqual(
                accepted(joined_machine("and", first, second), world), sorted(found[0] & found[1]))
            self.assertEqual(
                accepted(joined_machine("or", first, second), world), sorted(found[0] | found[1]))

    def test_399_states_and_400(self):
        large, small = Machine(0, [TRUE] * 396, [0] * 396), Machine(2, [FALSE] * 3, [1] * 3)
        world = World(1, 0, [[]], [])
        self.assertEqual(accepted(joined_machine("and", large, small), world), [])
        self.assertEqual(accepted(joined_machine("or", small, large), world), [0])
        self.assertRaises(TooLarge, joined_machine, "or", large, Machine(0, [FALSE] * 4, [1] * 4))

    def test_arguments_stay(self):
        first, second = Machine(0, [some(0)], [1]), Machine(0, [every(0)], [2])
        joined_machine("and", first, second)
        self.assertEqual((first.rows, second.rows), ((some(0),), (every(0),)))


class Guardedness(unittest.TestCase):
    def test_reference_agrees(self):
        rng = generator(85)
        for _ in range(200):
            statement = random_statement(rng, 12)
            self.assertEqual(is_guarded(statement), guarded_under(statement, set()))
