"""Guarded statements: each way from a binder to its variable goes along a step."""

from fixworlds.components import flood, turned
from fixworlds.equations import closed_statement, equations_of
from fixworlds.errors import NotGuarded
from fixworlds.joins import joined
from fixworlds.parts import JOINS, STEPPERS, binder_places, nearest_around, parts_of
from fixworlds.statements import ensure_closed

# Where a variable stands for its binder without a step between, the binder asks only for
# itself there: this is false for a least and true for a most fixed point.
UNGUARDED = {"least": ("false",), "most": ("true",)}


def is_guarded(statement):
    """True if each variable stands within a some or all within the scope of its binder."""
    parts = parts_of(statement)
    places = binder_places(parts)
    steppers = nearest_around(parts, STEPPERS)
    return all(stepper >= place for stepper, place in zip(steppers, places))


def ensure_guarded(statement):
    """Raises NotClosed if a variable is free in a statement, then NotGuarded if it is not guarded."""
    ensure_closed(statement)
    if not is_guarded(statement):
        raise NotGuarded("a variable stands within no some or all within its binder")


def guarded(statement):
    """A guarded statement that is true at the same states of every world as a closed one."""
    ensure_closed(statement)
    if is_guarded(statement):
        return statement
    return closed_statement(guarded_equations(equations_of(statement)))


def guarded_equations(equations):
    """Equations for the same sets, without loops of variables that no step guards.

    From the last equation to the first, each later one that leads back to it without a step
    is written into its place, and then the equation's own variable is replaced.
    """
    bodies = [body for _, body in equations]
    leads = [leading(body) for body in bodies]
    for at in reversed(range(len(equations))):
        replacements = {other: bodies[other] for other in leading_back(leads, at)}
        replacements[at] = UNGUARDED[equations[at][0]]
        while any([other in replacements for other in leads[at]]):
            bodies[at] = rewritten(bodies[at], replacements, {})
            leads[at] = leading(bodies[at])
        twins = outermost_twins(equations, at)
        bodies[at] = rewritten(bodies[at], twins, twins)
        leads[at] = leading(bodies[at])
    return [(kind, body) for (kind, _), body in zip(equations, bodies)]


def outermost_twins(equations, at):
    """For each variable behind one the first variable behind it that has the same value.

    A binder that is the whole scope of another one is true where the other one is. To take
    the outer one keeps the statement short: the inner one would have to be written with the
    outer one within it.
    """
    twins = {}
    for index in range(at + 1, len(equations)):
        twins[index] = ("var", index)
        if index - 1 in twins and equations[index - 1][1] == ("var", index):
            twins[index] = twins[index - 1]
    return twins


def leading_back(leads, first):
    """The list of the equations behind one that lead to it, by such ones, without a step."""
    ways = {at: leads[at] for at in range(first, len(leads))}
    return flood(first, turned(ways), {})[1:]


def leading(body):
    """The list of the variables of a body that stand within no some or all."""
    parts = parts_of(body)
    steppers = nearest_around(parts, STEPPERS)
    return [
        part.head[1] for part, stepper in zip(parts, steppers)
        if part.head[0] == "var" and stepper < 0
    ]


def rewritten(body, unguarded, others):
    """A body with statements in place of variables: unguarded ones, and others; shortened."""
    parts = parts_of(body)
    steppers = nearest_around(parts, STEPPERS)
    made = [()] * len(parts)
    for at in reversed(range(len(parts))):
        head = parts[at].head
        inner = tuple([made[place] for place in parts[at].inner])
        made[at] = head + inner
        if head[0] == "var":
            replacements = unguarded if steppers[at] < 0 else others
            made[at] = replacements.get(head[1], head)
        elif head[0] in JOINS:
            made[at] = joined(head[0], inner[0], inner[1])
    return made[0]
