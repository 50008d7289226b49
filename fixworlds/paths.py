"""Path statements: what is true along rows of steps."""

from fixworlds.parts import parts_of
from fixworlds.stages import truth

# What is written for the parts of a path statement is closed: so one variable is enough.
ITSELF = ("var", 0)


def path_statement(path):
    """A closed statement that is true, in every world, where a path statement is."""
    parts = parts_of(path)
    made = [()] * len(parts)
    for at in reversed(range(len(parts))):
        inner = tuple([made[place] for place in parts[at].inner])
        made[at] = written(parts[at].head, inner)
    return made[0]


def written(head, inner):
    """The statement for a path statement with a head; what is in it is written already."""
    if head[0] == "someuntil":
        return until(("some", head[1], ITSELF), inner)
    if head[0] == "alluntil":
        # A row that ends before the goal does not reach it, though no step leads elsewhere.
        onward = ("and", ("some", head[1], ("true",)), ("all", head[1], ITSELF))
        return until(onward, inner)
    if head[0] == "somealways":
        onward = ("or", ("all", head[1], ("false",)), ("some", head[1], ITSELF))
        return "most", 0, ("and", inner[0], onward)
    if head[0] == "allalways":
        return "most", 0, ("and", inner[0], ("all", head[1], ITSELF))
    return head + inner


def until(onward, inner):
    """A goal is true after some steps on which the first statement is true, led by what is onward."""
    before, goal = inner
    return "least", 0, ("or", goal, ("and", before, onward))


def path_truth(world, path):
    """The list of the states at which a path statement is true."""
    return truth(world, path_statement(path))
