"""Systems of equations between sets of states."""

from fixworlds.equations import closed_statement, equations_of
from fixworlds.errors import InvalidSystem, TooLarge
from fixworlds.limits import is_number
from fixworlds.masks import states_in
from fixworlds.parts import BINDERS, parts_of
from fixworlds.solutions import solved

MOST_EQUATIONS = 12


class System:
    """A system: a tuple of equations (kind, body)."""

    def __init__(self, equations):
        self.equations = tuple([tuple(equation) for equation in equations])
        if not is_number(len(self.equations), 1, MOST_EQUATIONS):
            raise InvalidSystem("a system has 1 to 12 equations")
        for kind, body in self.equations:
            if kind not in BINDERS:
                raise InvalidSystem("the kind of an equation is least or most")
            check_body(body, len(self.equations) - 1)


def check_body(body, greatest):
    """Raises InvalidSystem if a body has a binder, or a variable that is no index."""
    for part in parts_of(body):
        if part.head[0] in BINDERS:
            raise InvalidSystem("a body has a binder")
        if part.head[0] == "var" and not is_number(part.head[1], 0, greatest):
            raise InvalidSystem("a body has a variable that is no index of an equation")


def solution(world, system):
    """The tuple with the list of the states of each variable."""
    return tuple([states_in(mask) for mask in solved(world, system.equations)])


def system_of(statement):
    """The system of a closed statement."""
    equations = equations_of(statement)
    if len(equations) > MOST_EQUATIONS:
        raise TooLarge("the statement has more than 11 binders")
    return System(equations)


def statement_of(system):
    """A closed statement that is true, in every world, where variable 0 of a system is."""
    return closed_statement(system.equations)
