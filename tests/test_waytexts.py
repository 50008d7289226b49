"""Points 32 and 33: texts of ways and machines."""

import unittest

from fixworlds.errors import InvalidMachine, StatementSyntaxError
from fixworlds.machines import Machine, accepted, machine_of
from fixworlds.texts import parse_statement
from fixworlds.ways import way_pairs
from fixworlds.waytexts import format_machine, format_way, parse_machine
from fixworlds.worlds import World
from tests.reference import generator, small_worlds
from tests.test_machines import random_machine
from tests.test_ways import random_way

A, B, C = ("step", 0), ("step", 1), ("step", 2)
TRUE, FALSE = ("true",), ("false",)


def then(left, right):
    return ("then", left, right)


def either(left, right):
    return ("either", left, right)


def again(way):
    return ("again", way)


class WayReader:
    """Reads the text of a way: * binds strongest, then ;, then +; both associate to the left."""

    def __init__(self, text):
        self.text, self.at = text.replace(" ; ", ";").replace(" + ", "+"), 0

    def next_is(self, sign):
        return self.text[self.at:self.at + 1] == sign

    def way(self):
        found = self.row()
        while self.next_is("+"):
            self.at += 1
            found = ("either", found, self.row())
        return found

    def row(self):
        found = self.single()
        while self.next_is(";"):
            self.at += 1
            found = ("then", found, self.single())
        return found

    def single(self):
        if self.next_is("("):
            self.at += 1
            found = self.way()
            self.at += 1
        elif self.next_is("{"):
            end = self.text.index("}", self.at)
            found = ("test", parse_statement(self.text[self.at + 1:end]))
            self.at = end + 1
        else:
            found = ("step", int(self.text[self.at]))
            self.at += 1
        while self.next_is("*"):
            self.at += 1
            found = ("again", found)
        return found


def read_way(text):
    """The way of a text, or None if it is no text of one."""
    reader = WayReader(text)
    found = reader.way()
    return found if reader.at == len(reader.text) else None


class FormatWay(unittest.TestCase):
    def check(self, way, text):
        self.assertEqual(format_way(way), text)
        self.assertEqual(read_way(text), way)

    def test_example(self):
        self.check(again(then(A, ("test", ("has", 1)))), "(0 ; {p1})*")

    def test_steps_and_tests(self):
        for label in (0, 1, 2):
            self.check(("step", label), str(label))
        self.check(("test", TRUE), "{true}")
        self.check(("test", ("lacks", 5)), "{!p5}")

    def test_tests_of_binders_and_ors(self):
        self.check(("test", ("or", ("has", 0), ("has", 1))), "{p0 | p1}")
        self.check(("test", ("most", 3, ("or", ("has", 0), ("all", 1, ("var", 3))))), "{nu x3. p0 | [1] x3}")
        self.check(then(("test", ("least", 0, ("some", 0, ("var", 0)))), A), "{mu x0. <0> x0} ; 0")
        self.check(again(("test", ("and", ("or", ("has", 0), TRUE), ("least", 10, ("var", 10))))),
                   "{(p0 | true) & (mu x10. x10)}*")

    def test_again_around_each_kind(self):
        self.check(again(A), "0*")
        self.check(again(("test", ("or", ("has", 0), FALSE))), "{p0 | false}*")
        self.check(again(then(A, B)), "(0 ; 1)*")
        self.check(again(either(A, B)), "(0 + 1)*")
        self.check(again(again(A)), "0**")
        self.check(again(again(either(A, B))), "(0 + 1)**")

    def test_then_within_then(self):
        self.check(then(then(A, B), C), "0 ; 1 ; 2")
        self.check(then(A, then(B, C)), "0 ; (1 ; 2)")
        self.check(then(then(A, B), then(B, C)), "0 ; 1 ; (1 ; 2)")

    def test_either_within_either(self):
        self.check(either(either(A, B), C), "0 + 1 + 2")
        self.check(either(A, either(B, C)), "0 + (1 + 2)")
        self.check(either(either(A, B), either(B, C)), "0 + 1 + (1 + 2)")

    def test_either_and_then(self):
        self.check(then(either(A, B), C), "(0 + 1) ; 2")
        self.check(then(A, either(B, C)), "0 ; (1 + 2)")
        self.check(either(then(A, B), C), "0 ; 1 + 2")
        self.check(either(A, then(B, C)), "0 + 1 ; 2")
        self.check(then(again(A), again(either(A, B))), "0* ; (0 + 1)*")
        self.check(either(again(A), again(then(A, B))), "0* + (0 ; 1)*")
        self.check(then(A, either(then(B, C), A)), "0 ; (1 ; 2 + 0)")

    def test_random(self):
        rng = generator(221)
        for _ in range(1000):
            way = random_way(rng, rng.randint(1, 20))
            text = format_way(way)
            self.assertEqual(read_way(text), way)
            self.assertEqual(text.count(";") + text.count("+"), text.count(" ; ") + text.count(" + "))

    def test_each_parenthesis_is_needed(self):
        rng = generator(222)
        for _ in range(300):
            text = format_way(no_tests(random_way(rng, rng.randint(1, 12))))
            for first, second in pairs_of_parentheses(text):
                shorter = text[:first] + text[first + 1:second] + text[second + 1:]
                self.assertNotEqual(read_way(shorter), read_way(text))

    def test_same_pairs_in_all_small_worlds(self):
        worlds = [World(*parts) for parts in small_worlds()]
        rng = generator(223)
        for _ in range(60):
            way = random_way(rng, rng.randint(1, 8))
            for world in worlds:
                self.assertEqual(way_pairs(world, read_way(format_way(way))), way_pairs(world, way))


def no_tests(way):
    """A way with a step in place of each test."""
    if way[0] == "test":
        return C
    return way if way[0] == "step" else (way[0],) + tuple(no_tests(part) for part in way[1:])


def pairs_of_parentheses(text):
    """The places of all parentheses, in pairs."""
    opened, found = [], []
    for at, sign in enumerate(text):
        if sign == "(":
            opened.append(at)
        elif sign == ")":
            found.append((opened.pop(), at))
    return found


def parts_of_machine(machine):
    return machine.start, machine.rows, machine.priorities


class MachineTexts(unittest.TestCase):
    def check(self, machine, text):
        self.assertEqual(format_machine(machine), text)
        self.assertEqual(parts_of_machine(parse_machine(text)), parts_of_machine(machine))

    def test_one_state(self):
        self.check(Machine(0, [TRUE], [0]), "machine 1 0\nrow 0 true\n")
        self.check(Machine(0, [("some", 2, ("var", 0))], [200]), "machine 1 0\nrow 200 <2> x0\n")

    def test_rows_with_parentheses_and_without(self):
        rows = [
            ("and", ("or", ("has", 0), ("some", 0, ("var", 1))), ("lacks", 5)),
            ("or", ("and", ("has", 0), ("all", 1, ("var", 0))), FALSE),
            ("all", 0, ("or", ("var", 2), ("and", ("var", 1), ("and", ("var", 0), TRUE)))),
        ]
        self.check(Machine(2, rows, [0, 1, 200]), (
            "machine 3 2\n"
            "row 0 (p0 | <0> x1) & !p5\n"
            "row 1 p0 & [1] x0 | false\n"
            "row 200 [0] (x2 | x1 & (x0 & true))\n"))

    def test_eleven_states(self):
        rows = [("some", 0, ("var", at)) for at in range(11)]
        lines = [f"row {10 * at} <0> x{at}\n" for at in range(11)]
        self.check(Machine(10, rows, list(range(0, 101, 10))), "machine 11 10\n" + "".join(lines))

    def test_a_hundred_and_one_states(self):
        rows = [("all", 1, ("or", ("var", 100 - at), ("var", at))) for at in range(101)]
        lines = [f"row {at} [1] (x{100 - at} | x{at})\n" for at in range(101)]
        self.check(Machine(100, rows, list(range(101))), "machine 101 100\n" + "".join(lines))

    def test_four_hundred_states(self):
        rows = [("some", 0, ("var", 399 - at)) for at in range(400)]
        machine = Machine(399, rows, [at % 201 for at in range(400)])
        self.assertEqual(parts_of_machine(parse_machine(format_machine(machine))), parts_of_machine(machine))

    def test_random(self):
        rng = generator(224)
        for _ in range(300):
            machine = random_machine(rng, 12)
            self.assertEqual(
                parts_of_machine(parse_machine(format_machine(machine))), parts_of_machine(machine))

    def test_same_states_in_all_small_worlds(self):
        worlds = [World(*parts) for parts in small_worlds()]
        rng = generator(225)
        for _ in range(40):
            machine = random_machine(rng, 3, 6)
            read = parse_machine(format_machine(machine))
            for world in worlds:
                self.assertEqual(accepted(read, world), accepted(machine, world))

    def test_machines_of_statements(self):
        for text in ("nu x0. mu x1. <0> (p0 & x0 | x1)", "mu x0. p1 | [0] x0", "p0 & !p1"):
            machine = machine_of(parse_statement(text))
            self.assertEqual(
                parts_of_machine(parse_machine(format_machine(machine))), parts_of_machine(machine))

    def test_deep_row(self):
        row = TRUE
        for _ in range(900):
            row = ("some", 0, row)
        text = "machine 1 0\nrow 0 " + "<0> " * 900 + "true\n"
        self.assertEqual(format_machine(Machine(0, [row], [0])), text)
        self.assertEqual(format_machine(parse_machine(text)), text)


class WrongTextsOfMachines(unittest.TestCase):
    TEXT = "machine 2 1\nrow 0 <0> x1\nrow 3 p0 | [1] (x0 & x1)\n"

    def refuse(self, text):
        with self.assertRaises(InvalidMachine, msg=text):
            parse_machine(text)

    def change(self, old, new):
        self.assertEqual(self.TEXT.count(old), 1)
        self.refuse(self.TEXT.replace(old, new))

    def test_the_text_itself(self):
        self.assertEqual(format_machine(parse_machine(self.TEXT)), self.TEXT)

    def test_line_too_few_or_too_many(self):
        self.change("row 0 <0> x1\n", "")
        self.change("machine 2 1\n", "")
        self.refuse("machine 2 1\nrow 0 <0> x1\n")
        self.refuse(self.TEXT + "row 0 true\n")
        self.refuse(self.TEXT + "\n")
        self.refuse("\n" + self.TEXT)
        self.refuse(self.TEXT + self.TEXT)
        self.change("x1\nrow", "x1\n\nrow")
        self.refuse("")
        self.refuse("\n")
        self.refuse("machine 0 0\n")
        self.refuse("machine 1 0\n")
        self.refuse("machine 1 0")

    def test_line_feeds(self):
        self.refuse(self.TEXT[:-1])
        self.refuse(self.TEXT[:-1] + "\r\n")
        self.refuse(self.TEXT.replace("\n", "\r\n"))
        self.refuse(self.TEXT.replace("\n", " "))
        self.change("<0> x1\n", "<0>\nx1\n")

    def test_spaces(self):
        for old, new in (("machine 2", "machine  2"), ("2 1\n", "2  1\n"), ("2 1\n", "2 1 \n"), ("row 0", "row  0"),
                         ("row 0 ", "row 0  "), ("<0> x1", "<0>  x1"), ("<0> x1", "<0>x1"), ("x1\nrow", "x1 \nrow"),
                         ("p0 | ", "p0  | "), ("p0 | ", "p0|"), ("(x0", "( x0"), ("row 3", " row 3"),
                         ("row 0", "row\t0"), ("machine 2", " machine 2"), ("row 3 ", "row 3")):
            self.change(old, new)

    def test_words(self):
        for old, new in (("machine", "Machine"), ("machine", "world"), ("machine ", ""), ("row 0", "Row 0"),
                         ("row 0", "state 0"), ("row 0 ", ""), ("row 0 ", "0 "), ("row 0 ", "row "),
                         ("machine 2 1", "machine 2"), ("machine 2 1", "machine 2 1 0"),
                         ("row 0 <0> x1", "row"), ("row 0 <0> x1", "row 0"), ("row 0 <0> x1", "row 0 ")):
            self.change(old, new)

    def test_numbers(self):
        for old, new in (("machine 2", "machine 02"), ("2 1\n", "2 01\n"), ("row 0", "row 00"), ("row 3", "row 03"),
                         ("row 3", "row +3"), ("row 3", "row -3"), ("row 3", "row 3.0"), ("row 3", "row 201"),
                         ("row 3", "row 1000"), ("row 3", "row three"), ("machine 2", "machine 1"),
                         ("machine 2", "machine 3"), ("machine 2", "machine -2"), ("machine 2", "machine 1000"),
                         ("<0> x1", "<0> x01"), ("<0> x1", "<0> x001"), ("row 3", "row \u0663"),
                         ("row 3", "row \u00b2"), ("<0> x1", "<0> x\u0661"), ("row 3", "row _3")):
            self.change(old, new)

    def test_start_state_that_is_not_there(self):
        for start in ("2", "3", "-1", "400", "999", "x1", ""):
            self.change("2 1\n", f"2 {start}\n")

    def test_parentheses_that_are_not_needed(self):
        for old, new in (("<0> x1", "(<0> x1)"), ("<0> x1", "<0> (x1)"), ("p0 |", "(p0) |"),
                         ("[1] (x0 & x1)", "([1] (x0 & x1))"), ("(x0 & x1)", "((x0 & x1))"),
                         ("(x0 & x1)", "(x0 & x1"), ("(x0 & x1)", "x0 & x1)")):
            self.change(old, new)
        # Without the parentheses x1 stands outside of the all.
        self.change("(x0 & x1)", "x0 & x1")
        self.refuse("machine 1 0\nrow 0 (p0 & p1) | p2\n")
        self.refuse("machine 1 0\nrow 0 (p0 | p1) | p2\n")
        self.assertEqual(parse_machine("machine 1 0\nrow 0 p0 | (p1 | p2)\n").rows,
                         (("or", ("has", 0), ("or", ("has", 1), ("has", 2))),))

    def test_binder_in_a_row(self):
        for row in ("mu x0. true", "nu x0. <0> x0", "<0> (mu x1. x1)", "p0 & (nu x5. [0] x5)"):
            self.refuse(f"machine 1 0\nrow 0 {row}\n")

    def test_variable_that_is_no_state(self):
        self.change("<0> x1", "<0> x2")
        self.change("<0> x1", "<0> x10")
        self.change("<0> x1", "<0> x100")
        self.change("<0> x1", "<0> x1000")
        rows = "".join(f"row 0 <0> x{at + 1}\n" for at in range(100))
        self.refuse("machine 100 0\n" + rows)
        self.assertEqual(len(parse_machine("machine 101 0\n" + rows + "row 0 true\n").rows), 101)

    def test_variable_outside_of_every_some_and_all(self):
        self.change("<0> x1", "x1")
        self.change("p0 |", "x0 |")
        self.change("<0> x1", "<0> x1 & x0")

    def test_rows_that_are_no_statements(self):
        for row in ("x", "p6", "<3> x0", "<0>", "p0 &", "& p0", "()", "p0 p1", "true false", "True", "!x0", "q"):
            self.refuse(f"machine 1 0\nrow 0 {row}\n")

    def test_only_machines_have_variables_of_three_digits(self):
        with self.assertRaises(StatementSyntaxError) as caught:
            parse_statement("<0> x100")
        self.assertEqual(caught.exception.position, 7)
