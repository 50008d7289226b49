"""Machines that forget facts of statements."""

from fixworlds.closures import Closure
from fixworlds.errors import TooLarge
from fixworlds.forgetters import Forgetter
from fixworlds.guards import ensure_guarded
from fixworlds.machines import Machine
from fixworlds.parts import facts_in, parts_of
from fixworlds.rows import RowWriter

MOST_PARTS = 15


def forgetting_machine(statement, fact):
    """A machine that accepts states which are, but for a fact, like some at which a statement is true."""
    ensure_guarded(statement)
    if len(parts_of(statement)) > MOST_PARTS:
        raise TooLarge("the statement has more than 15 parts")
    return machine_without(statement, [fact])


def machine_without(statement, facts):
    """A machine that forgets all of some facts of a closed guarded statement."""
    mentioned = facts_in(statement)
    if any([fact in mentioned for fact in facts]):
        writer = Forgetter(Closure(statement), facts)
    else:
        writer = RowWriter(statement)
    return Machine(0, writer.rows, writer.priorities)
