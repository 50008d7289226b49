"""Whether statements are true anywhere: a world, or a refutation."""

from fixworlds.checks import Check
from fixworlds.closures import Closure
from fixworlds.errors import TooLarge
from fixworlds.guards import ensure_guarded
from fixworlds.models import model_of
from fixworlds.parts import parts_of
from fixworlds.refutations import refutation_of
from fixworlds.searches import decided_arena
from fixworlds.statements import opposite

MOST_PARTS = 40


def decide(statement):
    """("world", world, state) with a state at which a statement is true, or ("refuted", refutation)."""
    ensure_guarded(statement)
    if len(parts_of(statement)) > MOST_PARTS:
        raise TooLarge("the statement has more than 40 parts")
    arena, winner, chosen = decided_arena(Closure(statement))
    if winner == 0:
        world, state = model_of(arena, chosen)
        return "world", world, state
    return "refuted", refutation_of(arena, chosen)


def is_right(statement, refutation):
    """True if a refutation of a closed guarded statement is right."""
    return Check(statement, refutation).is_right()


def is_valid(statement):
    """True if a statement is true at all states of all worlds."""
    return decide(opposite(statement))[0] == "refuted"


def follows(first, second):
    """True if, at all states of all worlds, the second statement is true where the first one is."""
    return decide(("and", first, opposite(second)))[0] == "refuted"
