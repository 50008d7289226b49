"""Shorter statements: rules put a part of a statement, true or false in its place."""

from fixworlds.parts import JOINS, STEPPERS, parts_of
from fixworlds.shelves import Shelf


class Shortener:
    """A shelf of statements, and what the rules make of each one."""

    def __init__(self):
        self.shelf = Shelf()
        true = self.shelf.number(("true",), ())
        false = self.shelf.number(("false",), ())
        # A neutral operand changes nothing, a deciding one leaves nothing to the other one.
        self._neutral = {"and": true, "or": false}
        self._deciding = {"and": false, "or": true}
        # Behind steps this needs no step, and so does a binder that speaks of itself alone.
        self._kept = {"some": false, "all": true, "least": false, "most": true}

    def replaced(self, number):
        """The number of what a rule makes of a statement; its own number if no rule can be applied."""
        head = self.shelf.heads[number]
        inner = self.shelf.inner[number]
        if head[0] in JOINS:
            return self._joined(number)
        if head[0] in STEPPERS:
            return inner[0] if inner[0] == self._kept[head[0]] else number
        if not inner:
            return number
        if self.shelf.heads[inner[0]] == ("var", head[1]):
            return self._kept[head[0]]
        return number if head[1] in self.shelf.free[inner[0]] else inner[0]

    def _joined(self, number):
        """What a rule makes of an and or an or."""
        word = self.shelf.heads[number][0]
        left, right = self.shelf.inner[number]
        if self._deciding[word] in (left, right):
            return self._deciding[word]
        if left == self._neutral[word] or self._absorbs(right, left, word):
            return right
        if right == self._neutral[word] or left == right or self._absorbs(left, right, word):
            return left
        return number

    def _absorbs(self, number, other, word):
        """True if an other operand of a word changes nothing, as an operand of it is the first one."""
        other_word = self.shelf.heads[other][0]
        return other_word in JOINS and other_word != word and number in self.shelf.inner[other]


def is_plain(statement):
    """True if no part of a statement can be replaced by one of the rules."""
    shortener = Shortener()
    shortener.shelf.numbered(statement)
    return all([shortener.replaced(at) == at for at in range(len(shortener.shelf.heads))])


def shortened(statement):
    """The statement that the rules make of a statement, from its parts to the whole."""
    shortener = Shortener()
    parts = parts_of(statement)
    numbers = [0] * len(parts)
    for at in reversed(range(len(parts))):
        inner = tuple([numbers[place] for place in parts[at].inner])
        numbers[at] = shortener.replaced(shortener.shelf.number(parts[at].head, inner))
    return shortener.shelf.statements[numbers[0]]
