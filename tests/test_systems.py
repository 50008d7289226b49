"""Points 15 and 16: systems of equations."""

import unittest

from fixworlds.errors import InvalidSystem, NotClosed, TooLarge
from fixworlds.stages import truth
from fixworlds.systems import System, solution, statement_of, system_of
from fixworlds.worlds import World
from tests.reference import free_in, generator, meaning, random_statement, random_world

X0, X1, X2 = ("var", 0), ("var", 1), ("var", 2)


def some(statement):
    return ("some", 0, statement)


def plain_solution(states, steps, equations, known):
    """The sets that point 15 tells, from the equation behind those whose sets are known."""
    index = len(known)
    if index == len(equations):
        return known
    kind, body = equations[index]
    reached = set() if kind == "least" else set(range(len(states)))
    while True:
        sets = plain_solution(states, steps, equations, known + [reached])
        following = meaning(states, steps, body, dict(enumerate(sets)))
        if following == reached:
            return sets
        reached = following


def random_body(rng, parts, variables):
    """A statement of some parts without binders."""
    if parts == 1:
        return rng.choice([("var", rng.randrange(variables))] * 3 + [
            ("has", rng.randrange(2)), ("lacks", 0), ("true",), ("false",)])
    if parts == 2 or rng.random() < 0.4:
        return (rng.choice(("some", "all")), rng.randrange(2), random_body(rng, parts - 1, variables))
    left = rng.randint(1, parts - 2)
    return (rng.choice(("and", "or")), random_body(rng, left, variables),
            random_body(rng, parts - 1 - left, variables))


class Systems(unittest.TestCase):
    def refuse(self, equations):
        self.assertRaises(InvalidSystem, System, equations)

    def test_equations(self):
        equations = [("least", X1), ("most", ("and", some(X0), ("has", 0)))]
        system = System(equations)
        self.assertEqual(system.equations, tuple(equations))
        equations.append(("least", X0))
        self.assertEqual(len(system.equations), 2)

    def test_one_and_twelve_equations(self):
        self.assertEqual(System([("most", ("true",))]).equations, (("most", ("true",)),))
        self.assertEqual(len(System([("least", ("var", 11))] * 12).equations), 12)

    def test_refused(self):
        self.refuse([])
        self.refuse([("least", ("true",))] * 13)
        for kind in ("some", "", "Least", "and"):
            self.refuse([("least", X0), (kind, X0)])
        for body in (X1, ("or", ("true",), some(("var", 2))), ("var", -1)):
            self.refuse([("least", body)])
        self.refuse([("least", ("var", 12))] * 12)
        for body in (("least", 0, X0), ("and", ("true",), some(("most", 1, ("true",))))):
            self.refuse([("least", body), ("most", X0)])


class Solution(unittest.TestCase):
    def test_order_decides(self):
        world = World(1, 0, [[]], [(0, 0, 0)])
        self.assertEqual(solution(world, System([("least", X1), ("most", X0)])), ([], []))
        self.assertEqual(solution(world, System([("most", X1), ("least", X0)])), ([0], [0]))
        self.assertEqual(solution(world, System([("most", some(X1)), ("least", some(X0))])), ([0], [0]))

    def test_variables_that_the_first_does_not_mention(self):
        world = World(1, 1, [[0], []], [(1, 0, 0)])
        system = System([("least", ("has", 0)), ("most", some(X1)), ("least", ("or", X0, some(X2)))])
        self.assertEqual(solution(world, system), ([0], [], [0, 1]))

    def test_labels_and_facts_that_are_not_there(self):
        world = World(1, 0, [[], []], [])
        system = System([("least", ("all", 2, X0)), ("most", ("and", ("lacks", 5), X1))])
        self.assertEqual(solution(world, system), ([0, 1], [0, 1]))

    def test_random(self):
        rng = generator(23)
        for _ in range(600):
            many = rng.randint(1, 4)
            equations = [(rng.choice(("least", "most")), random_body(rng, rng.randint(1, 9), many))
                         for _ in range(many)]
            labels, facts, states, steps = random_world(rng, rng.randint(1, 4))
            world = World(labels, facts, states, steps)
            found = solution(world, System(equations))
            sets = plain_solution(states, steps, equations, [])
            self.assertEqual(found, tuple(sorted(each) for each in sets))
            statement = statement_of(System(equations))
            self.assertEqual(free_in(statement), set())
            self.assertEqual(sorted(meaning(states, steps, statement, {})), found[0])

    def test_twelve_equations_of_both_kinds_in_turn(self):
        rng = generator(24)
        for _ in range(3):
            equations = [(("least", "most")[at & 1], random_body(rng, 4, 12)) for at in range(12)]
            labels, facts, states, steps = random_world(rng, 2)
            found = solution(World(labels, facts, states, steps), System(equations))
            sets = plain_solution(states, steps, equations, [])
            self.assertEqual(found, tuple(sorted(each) for each in sets))


class SystemOf(unittest.TestCase):
    def test_example(self):
        statement = ("or", ("has", 0), ("least", 3, ("some", 0, ("var", 3))))
        self.assertEqual(system_of(statement).equations, (
            ("least", ("or", ("has", 0), ("var", 1))), ("least", ("some", 0, ("var", 1)))))

    def test_without_binders(self):
        self.assertEqual(system_of(("lacks", 5)).equations, (("least", ("lacks", 5)),))

    def test_binders_within_one_another_and_side_by_side(self):
        statement = ("most", 7, ("and", ("least", 8, ("or", ("var", 7), ("var", 8))),
                                 ("least", 8, some(("most", 7, ("var", 8))))))
        self.assertEqual(system_of(statement).equations, (
            ("least", X1), ("most", ("and", X2, ("var", 3))), ("least", ("or", X1, X2)),
            ("least", some(("var", 4))), ("most", ("var", 3))))

    def test_value_of_variable_0_is_where_the_statement_is_true(self):
        rng = generator(25)
        for _ in range(300):
            statement = random_statement(rng, rng.randint(1, 16))
            labels, facts, states, steps = random_world(rng, rng.randint(1, 4))
            world = World(labels, facts, states, steps)
            system = system_of(statement)
            self.assertEqual(solution(world, system)[0], truth(world, statement))
            self.assertEqual(truth(world, statement_of(system)), truth(world, statement))

    def test_eleven_and_twelve_binders(self):
        statement = ("true",)
        for variable in range(11):
            statement = ("least", variable, ("or", statement, some(("var", variable))))
        self.assertEqual(len(system_of(statement).equations), 12)
        self.assertRaises(TooLarge, system_of, ("most", 50, statement))
        beside = ("least", 0, ("var", 0))
        for _ in range(11):
            beside = ("and", beside, ("least", 0, ("var", 0)))
        self.assertRaises(TooLarge, system_of, beside)
        self.assertEqual(len(system_of(beside[1]).equations), 12)

    def test_not_closed_is_raised_first(self):
        self.assertRaises(NotClosed, system_of, X0)
        statement = X0
        for variable in range(1, 20):
            statement = ("most", variable, statement)
        self.assertRaises(NotClosed, system_of, statement)


class StatementOf(unittest.TestCase):
    def test_one_equation(self):
        world = World(1, 1, [[0], []], [(1, 0, 0)])
        for kind, expected in (("least", []), ("most", [0, 1])):
            statement = statement_of(System([(kind, X0)]))
            self.assertEqual(truth(world, statement), expected)
        self.assertEqual(truth(world, statement_of(System([("least", ("has", 0))]))), [0])

    def test_twelve_equations(self):
        rng = generator(26)
        for _ in range(30):
            equations = [(rng.choice(("least", "most")), random_body(rng, rng.randint(1, 4), 12))
                         for _ in range(12)]
            world = World(*random_world(rng, rng.randint(1, 5)))
            system = System(equations)
            self.assertEqual(truth(world, statement_of(system)), solution(world, system)[0])

    def test_twelve_equations_that_all_mention_all(self):
        body = X0
        for index in range(1, 12):
            body = ("or", body, some(("var", index)))
        system = System([(("least", "most")[at & 1], body) for at in range(12)])
        self.assertIn(statement_of(system)[0], ("least", "most"))
