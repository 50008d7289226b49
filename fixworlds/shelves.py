"""Statements by number.

Unfolding puts copies of a statement into each other, and a nested tuple with many equal parts
is long to compare. A shelf keeps each statement once, whatever stands around it.
"""

from fixworlds.parts import BINDERS, parts_of


class Shelf:
    """Statements by number: equal ones have one number, and the parts of one have lesser ones."""

    def __init__(self):
        self.heads = []
        self.inner = []
        self.free = []
        self.statements = []
        self._numbers = {}

    def number(self, head, inner):
        """The number of the statement with this head and the statements of these numbers in it."""
        key = (head, inner)
        if key not in self._numbers:
            self._numbers[key] = len(self.heads)
            self.heads.append(head)
            self.inner.append(inner)
            self.free.append(self._free_in(head, inner))
            self.statements.append(head + tuple([self.statements[at] for at in inner]))
        return self._numbers[key]

    def _free_in(self, head, inner):
        found = [variable for at in inner for variable in self.free[at]]
        if head[0] == "var":
            found.append(head[1])
        if head[0] in BINDERS:
            found = [variable for variable in found if variable != head[1]]
        return tuple(sorted(set(found)))

    def numbered(self, statement):
        """The number of a statement."""
        parts = parts_of(statement)
        numbers = [0] * len(parts)
        for at in reversed(range(len(parts))):
            inner = tuple([numbers[place] for place in parts[at].inner])
            numbers[at] = self.number(parts[at].head, inner)
        return numbers[0]

    def unfolding(self, number):
        """The number of the unfolding of a closed binder."""
        variable = self.heads[number][1]
        scope = self.inner[number][0]
        changed = {}
        for at in self._parts_with_free(scope, variable):
            if self.heads[at][0] == "var":
                changed[at] = number
            else:
                inner = tuple([changed.get(part, part) for part in self.inner[at]])
                changed[at] = self.number(self.heads[at], inner)
        return changed.get(scope, scope)

    def _parts_with_free(self, number, variable):
        """The ascending list of the parts in which a variable is free: inner parts come first."""
        found = {}
        waiting = [number]
        while waiting:
            at = waiting.pop()
            if variable in self.free[at] and at not in found:
                found[at] = True
                waiting.extend(self.inner[at])
        return sorted(found)
