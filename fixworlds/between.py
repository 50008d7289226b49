"""Machines between two statements, of which the second follows from the first."""

from fixworlds.closures import Closure
from fixworlds.errors import TooLarge
from fixworlds.forgetting import machine_without
from fixworlds.guards import ensure_guarded
from fixworlds.machines import other_machine
from fixworlds.parts import facts_in, parts_of
from fixworlds.searches import decided_arena
from fixworlds.statements import ensure_closed, opposite

MOST_PARTS = 15


def machine_between(first, second):
    """A machine between two statements that mentions only facts of both, or None if none follows."""
    both = (first, second)
    for statement in both:
        ensure_closed(statement)
    for statement in both:
        ensure_guarded(statement)
    for statement in both:
        if len(parts_of(statement)) > MOST_PARTS:
            raise TooLarge("a statement has more than 15 parts")
    _, winner, _ = decided_arena(Closure(("and", first, opposite(second))))
    return None if winner == 0 else written_between(first, second)


def written_between(first, second):
    """A machine between two statements of which the second follows from the first.

    It accepts all that is like, but for the facts of the first one alone, some state at which
    the first one is true; or, where this gets too large, all but what is like, but for the facts
    of the second one alone, some state at which the second one is not true.
    """
    extra = facts_apart(first, second)
    more = facts_apart(second, first)
    if extra and not more:
        return machine_without(second, [])
    try:
        return machine_without(first, extra)
    except TooLarge:
        return other_machine(machine_without(opposite(second), more))


def facts_apart(statement, other):
    """The list of the facts that one statement mentions and the other one does not."""
    known = facts_in(other)
    return [fact for fact in facts_in(statement) if fact not in known]
