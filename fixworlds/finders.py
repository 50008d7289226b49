"""Which of some statements a statement is.

Statements of a closure can have far more parts than different ones: so they are not compared
part by part, but only where they differ from one another.
"""

from fixworlds.parts import head_of


class Finder:
    """Finds the place of a statement in a list of different ones."""

    def __init__(self, statements):
        self._statements = statements
        self._top = self._grown(list(range(len(statements))))

    def _grown(self, places):
        """A place, or a way through the statements, with what is left behind each row of heads."""
        if len(places) == 1:
            return places[0]
        way = way_to_difference(self._statements[places[0]], self._statements[places[1]])
        groups = {}
        for place in places:
            groups.setdefault(heads_along(self._statements[place], way), []).append(place)
        return way, {heads: self._grown(group) for heads, group in groups.items()}

    def place(self, statement):
        """The place of a statement; it is one of the list."""
        at = self._top
        while not isinstance(at, int):
            way, following = at
            at = following[heads_along(statement, way)]
        return at


def way_to_difference(first, second):
    """The way to the leftmost place at which two different statements have different heads."""
    way = []
    while head_of(first) == head_of(second):
        at = len(head_of(first))
        while first[at] == second[at]:
            at += 1
        way.append(at)
        first = first[at]
        second = second[at]
    return way


def heads_along(statement, way):
    """The heads that are met along a way, as far as it goes in a statement."""
    heads = [head_of(statement)]
    for at in way:
        if at < len(heads[-1]) or at >= len(statement):
            return tuple(heads)
        statement = statement[at]
        heads.append(head_of(statement))
    return tuple(heads)
