"""The closure of a statement by places: what debates and claims are about."""

from fixworlds.components import components
from fixworlds.nets import ranks_of
from fixworlds.parts import BINDERS
from fixworlds.shelves import Shelf
from fixworlds.statements import behind, closure_numbers


class Closure:
    """The statements of the closure of a closed statement, in ascending order.

    For each one: its head, the places of those that follow it in the closure, and the number of
    the component of the closure in which it is. Ranks has how much each binder on a loop counts.
    """

    def __init__(self, statement):
        shelf = Shelf()
        numbers = closure_numbers(shelf, statement)
        order = sorted(numbers, key=lambda number: shelf.statements[number])
        places = {number: place for place, number in enumerate(order)}
        self.statements = [shelf.statements[number] for number in order]
        self.heads = [shelf.heads[number] for number in order]
        self.inner = [tuple([places[part] for part in behind(shelf, number)]) for number in order]
        self.top = places[numbers[0]]
        # Of binders on one loop the one with the least variable decides.
        self.ranks = ranks_of(self.heads, self.inner, [variable_of(head) for head in self.heads])
        self.components = [0] * len(order)
        for number, members in enumerate(components(dict(enumerate(self.inner)))):
            for place in members:
                self.components[place] = number


def variable_of(head):
    """The variable of a binder, or -1."""
    return head[1] if head[0] in BINDERS else -1
