"""Whether a statement is true at one state, found by looking only at states that matter."""

from fixworlds.masks import mask_of
from fixworlds.parts import BINDERS, STEPPERS, binder_places, nearest_around, parts_of
from fixworlds.statements import ensure_closed
from fixworlds.worlds import followers


class Questions:
    """Questions about a closed statement in a world, and the answers that are known.

    A question (place, state, sets) asks whether the part at a place is true at a state. Sets has
    a set of states for each binder around the part, the outermost first, and for the part itself
    if it is a binder: without these states (for most: with them) the binder is asked. They get
    more each time that the binder's variable is asked, so no question leads back to itself.
    """

    def __init__(self, world, statement):
        self._world = world
        self._parts = parts_of(statement)
        self._binders = binder_places(self._parts)
        self._depths = []
        for part, nearest in zip(self._parts, nearest_around(self._parts, BINDERS)):
            depth = 0 if nearest < 0 else self._depths[nearest]
            self._depths.append(depth + 1 if part.head[0] in BINDERS else depth)
        self._known = {}

    def entered(self, place, state, sets):
        """The question about a part, with the sets of the binders around it."""
        if self._parts[place].head[0] in BINDERS:
            return place, state, sets + (0,)
        return place, state, sets

    def answer(self, question):
        """True or False; a question waits as long as one is missing that can decide it."""
        waiting = [question]
        while waiting:
            deciding, needed = self._onward(waiting[-1])
            found = [self._known.get(each) for each in needed]
            if deciding in found:
                self._known[waiting.pop()] = deciding
            elif None in found:
                waiting.append(needed[found.index(None)])
            else:
                self._known[waiting.pop()] = not deciding
        return self._known[question]

    def _onward(self, question):
        """An answer and a list of questions: the question has this answer if one of them has it."""
        place, state, sets = question
        part = self._parts[place]
        word = part.head[0]
        if word in BINDERS:
            return self._bound(part, state, sets)
        if word == "var":
            binder = self._binders[place]
            return True, [(binder, state, sets[:self._depths[binder]])]
        if word in ("has", "lacks"):
            return (part.head[1] in self._world.states[state]) == (word == "lacks"), []
        states = [state]
        if word in STEPPERS:
            states = followers(self._world, state, part.head[1])
        needed = [self.entered(inner, each, sets) for each in states for inner in part.inner]
        return word in ("false", "or", "some"), needed

    def _bound(self, part, state, sets):
        """How a question about a binder goes on: a state is asked once, and is then in its set."""
        if sets[-1] >> state & 1:
            return part.head[0] == "least", []
        return True, [self.entered(part.inner[0], state, sets[:-1] + (sets[-1] | 1 << state,))]


def is_true_at(world, statement, state):
    """True if a closed statement is true at a state."""
    ensure_closed(statement)
    questions = Questions(world, statement)
    return questions.answer(questions.entered(0, state, ()))


def is_true_without(world, statement, state, states):
    """True if a closed binder, without (for most: with) some states, is true at a state."""
    return Questions(world, statement).answer((0, state, (mask_of(states),)))
