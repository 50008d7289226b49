"""Machines that go over the states of a world, and what they accept."""

from fixworlds.equations import closed_statement, with_replaced
from fixworlds.errors import InvalidMachine, TooLarge
from fixworlds.games import MOST_PRIORITY
from fixworlds.guards import ensure_guarded
from fixworlds.limits import is_number
from fixworlds.masks import states_in
from fixworlds.parts import BINDERS, STEPPERS, nearest_around, parts_of
from fixworlds.rows import RowWriter
from fixworlds.solutions import solved
from fixworlds.statements import closure, exchanged

MOST_STATES = 400
MOST_CLOSURE = 15
MOST_WRITTEN = 4


class Machine:
    """A machine: its start state, and a row and a priority for each of its states."""

    def __init__(self, start, rows, priorities):
        self.start = start
        self.rows = tuple(rows)
        self.priorities = tuple(priorities)
        many = len(self.rows)
        if not is_number(many, 1, MOST_STATES):
            raise InvalidMachine("a machine has 1 to 400 states")
        if len(self.priorities) != many:
            raise InvalidMachine("the lists of a machine have different lengths")
        if not is_number(start, 0, many - 1):
            raise InvalidMachine("the start state is not there")
        for priority in self.priorities:
            if not is_number(priority, 0, MOST_PRIORITY):
                raise InvalidMachine("a priority is a number from 0 to 200")
        for row in self.rows:
            check_row(row, many)


def check_row(row, many):
    """Raises InvalidMachine if a row has a binder, or a variable that is wrong or stands wrongly."""
    parts = parts_of(row)
    for part, stepper in zip(parts, nearest_around(parts, STEPPERS)):
        if part.head[0] in BINDERS:
            raise InvalidMachine("a row has a binder")
        if part.head[0] == "var":
            if not is_number(part.head[1], 0, many - 1):
                raise InvalidMachine("a variable of a row is no state of the machine")
            if stepper < 0:
                raise InvalidMachine("a variable of a row stands within no some or all")


def equations_of_machine(machine):
    """Equations for the states of a machine, of which variable 0 stands for the start state.

    A state with a greater priority counts more: so it stands before those with lesser ones.
    """
    order = sorted(range(len(machine.rows)), key=lambda state: machine.priorities[state], reverse=True)
    variables = {state: ("var", 1 + at) for at, state in enumerate(order)}
    equations = [("most", variables[machine.start])]
    for state in order:
        kind = "least" if machine.priorities[state] & 1 else "most"
        equations.append((kind, with_replaced(machine.rows[state], variables)))
    return equations


def accepted(machine, world):
    """The list of the states of a world that a machine accepts."""
    return states_in(solved(world, equations_of_machine(machine))[0])


def machine_of(statement):
    """A machine that accepts the states of every world at which a statement is true."""
    ensure_guarded(statement)
    if len(closure(statement)) > MOST_CLOSURE:
        raise TooLarge("the closure has more than 15 statements")
    writer = RowWriter(statement)
    return Machine(0, writer.rows, writer.priorities)


def machine_statement(machine):
    """A closed statement that is true at the states of every world that a machine accepts."""
    if len(machine.rows) > MOST_WRITTEN:
        raise TooLarge("the machine has more than 4 states")
    return closed_statement(equations_of_machine(machine))


def other_machine(machine):
    """The machine that accepts the states that a machine does not accept."""
    if max(machine.priorities) == MOST_PRIORITY:
        raise TooLarge("a priority is 200")
    rows = [exchanged(row) for row in machine.rows]
    return Machine(machine.start, rows, [priority + 1 for priority in machine.priorities])


def joined_machine(kind, first, second):
    """A machine that accepts the states that both machines ("and") or one of them ("or") accept."""
    if len(first.rows) + len(second.rows) >= MOST_STATES:
        raise TooLarge("both machines together have more than 399 states")
    # The new start state stands before those of the first machine, and these before the others.
    moved = moved_rows(first.rows, 1)
    others = moved_rows(second.rows, 1 + len(first.rows))
    start = (kind, moved[first.start], others[second.start])
    priorities = (0,) + first.priorities + second.priorities
    return Machine(0, [start] + moved + others, priorities)


def moved_rows(rows, shift):
    """The rows with each variable greater by a number."""
    variables = {state: ("var", state + shift) for state in range(len(rows))}
    return [with_replaced(row, variables) for row in rows]
