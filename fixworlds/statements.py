"""Statements: free variables, tidy forms, opposites, unfoldings and closures."""

from fixworlds.errors import NotClosed
from fixworlds.parts import BINDERS, binder_places, built, parts_of
from fixworlds.shelves import Shelf

OPPOSITES = {
    "true": "false", "false": "true", "has": "lacks", "lacks": "has", "and": "or", "or": "and",
    "some": "all", "all": "some", "least": "most", "most": "least", "var": "var",
}


def free_variables(statement):
    """The ascending list of the variables that are free in a statement."""
    parts = parts_of(statement)
    places = binder_places(parts)
    return sorted({
        part.head[1] for part, place in zip(parts, places) if part.head[0] == "var" and place < 0
    })


def ensure_closed(statement):
    """Raises NotClosed if a variable is free in a statement."""
    if free_variables(statement):
        raise NotClosed("a variable is free in the statement")


def tidy(statement):
    """The statement with the binders numbered as they are written, and variables called so."""
    ensure_closed(statement)
    parts = parts_of(statement)
    places = binder_places(parts)
    numbers = {}
    heads = []
    for at, part in enumerate(parts):
        head = part.head
        if head[0] in BINDERS:
            numbers[at] = len(numbers)
            head = (head[0], numbers[at])
        elif head[0] == "var":
            head = ("var", numbers[places[at]])
        heads.append(head)
    return built(parts, heads)


def opposite(statement):
    """The statement that is true where a closed statement is not."""
    ensure_closed(statement)
    return exchanged(statement)


def exchanged(statement):
    """A statement with each word exchanged for its opposite; variables may be free in it."""
    parts = parts_of(statement)
    heads = [(OPPOSITES[part.head[0]],) + part.head[1:] for part in parts]
    return built(parts, heads)


def unfolded(statement):
    """The scope of a closed binder, with the whole statement in place of its variable."""
    shelf = Shelf()
    return shelf.statements[shelf.unfolding(shelf.numbered(statement))]


def closure(statement):
    """The list of the statements to which a debate about a closed statement can come."""
    shelf = Shelf()
    return [shelf.statements[number] for number in closure_numbers(shelf, statement)]


def closure_numbers(shelf, statement):
    """The list of the numbers of the closure of a closed statement."""
    found = [shelf.numbered(tidy(statement))]
    known = {found[0]: True}
    done = 0
    while done < len(found):
        for number in behind(shelf, found[done]):
            if number not in known:
                known[number] = True
                found.append(number)
        done += 1
    return found


def behind(shelf, number):
    """The numbers of the statements that follow one in its closure."""
    if shelf.heads[number][0] in BINDERS:
        return (shelf.unfolding(number),)
    return shelf.inner[number]
