"""What is true again and again, or from some state on, on rows of steps without end."""

from fixworlds.statements import opposite

OUTER = ("var", 0)
INNER = ("var", 1)


def again_somewhere(label, statement):
    """True where some endless row of steps begins on which a statement is true again and again."""
    met = ("and", statement, ("some", label, OUTER))
    return "most", 0, ("least", 1, ("or", met, ("some", label, INNER)))


def again_everywhere(label, statement):
    """True where on each endless row of steps a statement is true again and again."""
    return opposite(last_somewhere(label, opposite(statement)))


def last_somewhere(label, statement):
    """True where some endless row of steps begins on which a statement is true from some state on."""
    onward = ("most", 1, ("and", statement, ("some", label, INNER)))
    return "least", 0, ("or", onward, ("some", label, OUTER))


def last_everywhere(label, statement):
    """True where on each endless row of steps a statement is true from some state on."""
    return opposite(again_somewhere(label, opposite(statement)))
