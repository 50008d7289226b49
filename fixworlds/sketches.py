"""Sketches: worlds of which not all is known, what is true of them, and what refines them."""

from fixworlds.doers import Doers
from fixworlds.errors import InvalidWorld
from fixworlds.masks import mask_of, states_in
from fixworlds.parts import built, parts_of
from fixworlds.stages import truth
from fixworlds.worlds import World


class Sketch:
    """A sketch: the facts of each state and the steps, those that are sure and others that may be there."""

    def __init__(self, labels, facts, sure, possible, sure_steps, possible_steps):
        known = World(labels, facts, sure, sure_steps)
        others = World(labels, facts, possible, possible_steps)
        self.labels = labels
        self.facts = facts
        self.sure = known.states
        self.possible = others.states
        self.sure_steps = known.steps
        self.possible_steps = others.steps
        if len(self.sure) != len(self.possible):
            raise InvalidWorld("the lists of facts have different lengths")
        for row, more in zip(self.sure, self.possible):
            if any([fact in row for fact in more]):
                raise InvalidWorld("a fact is both sure and possible at a state")
        taken = {step: True for step in self.sure_steps}
        if any([step in taken for step in self.possible_steps]):
            raise InvalidWorld("a step is both sure and possible")


class Doubled:
    """The states and steps of a sketch, with each number of a fact or label twice.

    The even one stands for what is sure, the odd one for what is sure or possible.
    """

    def __init__(self, sketch):
        self.states = tuple([
            tuple([2 * fact for fact in row] + [1 + 2 * fact for fact in row + more])
            for row, more in zip(sketch.sure, sketch.possible)
        ])
        sure = [(start, 2 * label, end) for start, label, end in sketch.sure_steps]
        both = [
            (start, 1 + 2 * label, end) for start, label, end in sketch.sure_steps + sketch.possible_steps
        ]
        self.steps = tuple(sure + both)


def doubled(statement, odd):
    """A statement about a doubled sketch: odd is 0 for what is surely true, 1 for what may be true.

    Of what a statement denies, or asks of all steps, the other number decides.
    """
    shifts = {"has": odd, "some": odd, "lacks": 1 - odd, "all": 1 - odd}
    parts = parts_of(statement)
    heads = []
    for part in parts:
        head = part.head
        if head[0] in shifts:
            head = (head[0], 2 * head[1] + shifts[head[0]])
        heads.append(head)
    return built(parts, heads)


def surely_true(sketch, statement):
    """The list of the states at which a closed statement is surely true."""
    return truth(Doubled(sketch), doubled(statement, 0))


def possibly_true(sketch, statement):
    """The list of the states at which a closed statement may be true."""
    return truth(Doubled(sketch), doubled(statement, 1))


def refines(world, sketch):
    """The ascending list of the pairs (state of the world, state of the sketch) that refine."""
    many = len(world.states)
    sure = moved_steps(sketch.sure_steps, many)
    both = sure + moved_steps(sketch.possible_steps, many)
    # Of both, put side by side, a state of the one can do all that is asked by one of the other.
    doers = Doers(partners(world, sketch), list(world.steps) + sure, list(world.steps) + both, True).doers
    return [(state, other - many) for state in range(many) for other in states_in(doers[state])]


def moved_steps(steps, shift):
    """The list of the steps between states with greater numbers."""
    return [(start + shift, label, end + shift) for start, label, end in steps]


def partners(world, sketch):
    """For each state of a world, and then of a sketch, the mask of the others with fitting facts."""
    rows = [mask_of(row) for row in world.states]
    least = [mask_of(row) for row in sketch.sure]
    most = [mask_of(row + more) for row, more in zip(sketch.sure, sketch.possible)]
    found = [0] * (len(rows) + len(least))
    for state, row in enumerate(rows):
        for at in range(len(least)):
            if row | least[at] == row and row | most[at] == most[at]:
                other = len(rows) + at
                found[state] |= 1 << other
                found[other] |= 1 << state
    return found
