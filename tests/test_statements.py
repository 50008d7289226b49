"""Points 5 to 8: free variables, tidy forms, opposites, unfoldings, closures."""

import copy
import unittest

from fixworlds.errors import NotClosed
from fixworlds.statements import closure, free_variables, opposite, tidy, unfolded
from tests.reference import (
    free_in, generator, inserted, meaning, random_statement, random_world, size,
)

UNTIL = ("least", 7, ("or", ("has", 0), ("some", 0, ("var", 7))))
OPEN = ("and", ("var", 3), ("least", 3, ("var", 3)))
# A binder of x1 in the scope of x1, and beside it x1 again, which belongs to the outer binder.
NESTED = ("most", 1, ("and", ("least", 1, ("or", ("has", 5), ("some", 2, ("var", 1)))),
                      ("all", 0, ("var", 1))))


def deep(many, word="some"):
    """A closed statement with a binder and its variable so many parts deep."""
    statement = ("var", 99)
    for _ in range(many):
        statement = (word, 0, statement)
    return ("least", 99, statement)


class FreeVariables(unittest.TestCase):
    def test_without_variables(self):
        for statement in [("true",), ("false",), ("has", 0), ("lacks", 5)]:
            self.assertEqual(free_variables(statement), [])

    def test_ascending_and_without_duplicates(self):
        statement = ("or", ("and", ("var", 99), ("var", 0)), ("or", ("var", 10), ("var", 0)))
        self.assertEqual(free_variables(statement), [0, 10, 99])

    def test_within_and_beside_a_binder(self):
        self.assertEqual(free_variables(OPEN), [3])
        self.assertEqual(free_variables(("and", ("least", 3, ("var", 3)), ("var", 3))), [3])
        self.assertEqual(free_variables(("most", 4, ("or", ("var", 3), ("var", 4)))), [3])
        self.assertEqual(free_variables(("most", 3, ("least", 4, ("var", 3)))), [])
        self.assertEqual(free_variables(NESTED), [])

    def test_is_a_new_list(self):
        first = free_variables(OPEN)
        first.append(50)
        self.assertEqual(free_variables(OPEN), [3])

    def test_random(self):
        rng = generator(1)
        for _ in range(300):
            statement = random_statement(rng, rng.randint(1, 30), free=(0, 7, 99))
            self.assertEqual(free_variables(statement), sorted(free_in(statement)))


class Tidy(unittest.TestCase):
    def test_binders_are_numbered_as_written(self):
        self.assertEqual(tidy(NESTED), (
            "most", 0, ("and", ("least", 1, ("or", ("has", 5), ("some", 2, ("var", 1)))),
                        ("all", 0, ("var", 0)))))

    def test_two_binders_of_one_variable_side_by_side(self):
        self.assertEqual(
            tidy(("or", ("least", 9, ("var", 9)), ("and", ("most", 9, ("var", 9)), ("has", 0)))),
            ("or", ("least", 0, ("var", 0)), ("and", ("most", 1, ("var", 1)), ("has", 0))))

    def test_left_operand_with_an_inner_binder_comes_before_the_right_one(self):
        statement = ("and", ("all", 2, ("least", 5, ("most", 6, ("var", 5)))), ("most", 5, ("true",)))
        self.assertEqual(
            tidy(statement),
            ("and", ("all", 2, ("least", 0, ("most", 1, ("var", 0)))), ("most", 2, ("true",))))

    def test_variable_of_the_outer_binder_behind_an_inner_one(self):
        statement = ("least", 3, ("or", ("most", 3, ("var", 3)), ("var", 3)))
        self.assertEqual(tidy(statement), ("least", 0, ("or", ("most", 1, ("var", 1)), ("var", 0))))

    def test_tidy_stays(self):
        for statement in [("true",), ("lacks", 0), tidy(NESTED), tidy(UNTIL)]:
            self.assertEqual(tidy(statement), statement)

    def test_not_closed(self):
        for statement in [("var", 0), OPEN, ("some", 0, ("most", 1, ("var", 2)))]:
            self.assertRaises(NotClosed, tidy, statement)

    def test_eighty_parts_forty_deep(self):
        statement = deep(39)
        self.assertEqual(tidy(statement)[1], 0)


class Opposite(unittest.TestCase):
    def test_example(self):
        self.assertEqual(
            opposite(UNTIL), ("most", 7, ("and", ("lacks", 0), ("all", 0, ("var", 7)))))

    def test_each_word(self):
        for first, second in [
            (("true",), ("false",)), (("has", 0), ("lacks", 0)),
            (("and", ("true",), ("has", 5)), ("or", ("false",), ("lacks", 5))),
            (("some", 2, ("true",)), ("all", 2, ("false",))),
            (("least", 99, ("var", 99)), ("most", 99, ("var", 99))),
        ]:
            self.assertEqual(opposite(first), second)
            self.assertEqual(opposite(second), first)

    def test_not_closed(self):
        for statement in [("var", 0), OPEN]:
            self.assertRaises(NotClosed, opposite, statement)

    def test_is_true_where_the_statement_is_not(self):
        rng = generator(2)
        for _ in range(150):
            statement = random_statement(rng, rng.randint(1, 12))
            _, _, states, steps = random_world(rng, rng.randint(1, 4))
            there = meaning(states, steps, statement, {})
            self.assertEqual(
                meaning(states, steps, opposite(statement), {}), set(range(len(states))) - there)


class Unfolded(unittest.TestCase):
    def test_each_occurrence_that_is_free_in_the_scope(self):
        self.assertEqual(unfolded(UNTIL), ("or", ("has", 0), ("some", 0, UNTIL)))
        self.assertEqual(unfolded(NESTED), ("and", NESTED[2][1], ("all", 0, NESTED)))

    def test_within_an_inner_binder(self):
        statement = ("least", 0, ("most", 1, ("or", ("var", 0), ("all", 0, ("var", 1)))))
        self.assertEqual(
            unfolded(statement), ("most", 1, ("or", statement, ("all", 0, ("var", 1)))))

    def test_variable_right_behind_its_binder_and_none(self):
        self.assertEqual(unfolded(("most", 3, ("var", 3))), ("most", 3, ("var", 3)))
        self.assertEqual(unfolded(("least", 3, ("has", 1))), ("has", 1))

    def test_random(self):
        rng = generator(3)
        for _ in range(200):
            scope = random_statement(rng, rng.randint(1, 15), bound=(2,))
            statement = (rng.choice(("least", "most")), 2, scope)
            self.assertEqual(unfolded(statement), inserted(scope, 2, statement))


def plain_closure(statement):
    """The closure as point 8 tells it, from the tidy form."""
    found = [statement]
    for one in found:
        if one[0] in ("and", "or"):
            following = [one[1], one[2]]
        elif one[0] in ("some", "all"):
            following = [one[2]]
        elif one[0] in ("least", "most"):
            following = [inserted(one[2], one[1], one)]
        else:
            following = []
        found.extend(each for at, each in enumerate(following)
                     if each not in found and each not in following[:at])
    return found


class Closure(unittest.TestCase):
    def test_order(self):
        whole = ("least", 0, ("or", ("has", 0), ("some", 0, ("var", 0))))
        again = ("some", 0, whole)
        self.assertEqual(closure(UNTIL), [whole, ("or", ("has", 0), again), ("has", 0), again])

    def test_length_of_the_example(self):
        self.assertEqual(len(closure(UNTIL)), 4)

    def test_equal_parts_stand_once(self):
        statement = ("and", ("or", ("has", 0), ("has", 0)), ("or", ("has", 0), ("has", 0)))
        self.assertEqual(closure(statement), [statement, ("or", ("has", 0), ("has", 0)), ("has", 0)])

    def test_different_binders_keep_different_variables(self):
        statement = ("and", ("least", 0, ("some", 0, ("var", 0))),
                     ("least", 0, ("some", 0, ("var", 0))))
        first = ("least", 0, ("some", 0, ("var", 0)))
        second = ("least", 1, ("some", 0, ("var", 1)))
        self.assertEqual(
            closure(statement),
            [("and", first, second), first, second, ("some", 0, first), ("some", 0, second)])

    def test_variable_right_behind_its_binder(self):
        self.assertEqual(closure(("most", 5, ("var", 5))), [("most", 0, ("var", 0))])

    def test_random(self):
        rng = generator(4)
        for _ in range(300):
            statement = random_statement(rng, rng.randint(1, 16))
            self.assertEqual(closure(statement), plain_closure(tidy(statement)))
            self.assertLessEqual(len(closure(statement)), size(statement))

    def test_many_binders_within_one_another(self):
        statement = ("true",)
        for variable in range(18):
            statement = ("or", ("some", 0, ("var", variable)), statement)
        for variable in range(18):
            statement = (("least", "most")[variable & 1], variable, statement)
        self.assertEqual(len(closure(statement)), size(statement) - 18)

    def test_is_a_new_list(self):
        closure(UNTIL).clear()
        self.assertEqual(len(closure(UNTIL)), 4)

    def test_not_closed(self):
        for statement in [("var", 99), OPEN]:
            self.assertRaises(NotClosed, closure, statement)


class Throughout(unittest.TestCase):
    def test_arguments_stay_and_results_are_equal(self):
        for work in (free_variables, tidy, opposite, unfolded, closure):
            statement = copy.deepcopy(NESTED)
            self.assertEqual(work(statement), work(NESTED))
            self.assertEqual(statement, NESTED)
