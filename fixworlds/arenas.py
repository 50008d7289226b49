"""The game about whether a statement is true anywhere.

Player 0 holds that it is, and chooses a part of each or. Player 1 chooses a some of each claim
in which nothing is left to be taken apart. Player 1 wins at a clash, and a play without end if
there is a bad thread through its claims; player 0 wins if there is no some.
"""

from fixworlds.claims import Claims, behind_all, ways_on
from fixworlds.priorities import priorities_of


class Place:
    """A claim with the state of its threads; how it goes on is known once it is explored.

    Then it has a kind and a part as in a refutation, and moves: tuples (part, event, end) with
    the number of the place behind. At a step there is one for each some. A place without a
    state is given up: it is lost as a clash is.
    """

    def __init__(self, state):
        self.state = state
        self.claim = ()
        self.kind = "clash"
        if state is not None:
            self.claim = tuple([place for place, _ in state[0]])
            self.kind = None
        self.part = None
        self.moves = []


class Arena:
    """The places that have been met, by number; the first one has the statement alone.

    Threads tells how the threads are followed.
    """

    def __init__(self, closure, threads):
        self.closure = closure
        self.places = []
        self._rules = Claims(closure)
        self._threads = threads
        self._numbers = {}
        self._number(self._threads.first())

    def _number(self, state):
        """The number of the place with a state."""
        if state not in self._numbers:
            self._numbers[state] = len(self.places)
            self.places.append(Place(state))
        return self._numbers[state]

    def _followed(self, place, pairs):
        """The event and the end, if the threads go on from a place so."""
        event, state = self._threads.followed(place.state, pairs)
        return event, self._number(state)

    def explore(self, at):
        """Finds how a place goes on, unless this is known."""
        place = self.places[at]
        if place.kind is not None:
            return
        place.kind, place.part = self._rules.kind_and_part(place.claim)
        parts = [place.part]
        if place.kind == "step":
            parts = [each for each in place.claim if self.closure.heads[each][0] == "some"]
        place.moves = [
            (part,) + self._followed(place, pairs)
            for part in parts for pairs in ways_on(self.closure, place.claim, place.kind, part)
        ]

    def rests(self, at):
        """Where states behind steps come of which no some speaks: tuples (label, event, end)."""
        place = self.places[at]
        heads = [self.closure.heads[each] for each in place.claim]
        labels = sorted({head[1] for head in heads if head[0] == "all"})
        return [
            (label,) + self._followed(place, behind_all(self.closure, place.claim, label))
            for label in labels
        ]

    def game(self):
        """The owners, priorities and moves of a game for the places; the first move is the first.

        Places that are not explored are won by player 0. A move with an event passes a position
        of its own, behind those for the places.
        """
        events = [event for place in self.places for _, event, _ in place.moves]
        priorities = priorities_of(events)
        owners = [0 if place.kind in ("either", "clash") else 1 for place in self.places]
        worths = [0] * len(owners)
        passed = {}
        ends = []
        for place in self.places:
            for _, event, end in place.moves:
                if event is not None and (event, end) not in passed:
                    passed[(event, end)] = len(self.places) + len(passed)
            ends.append([passed.get((event, end), end) for _, event, end in place.moves])
        for event, end in passed:
            owners.append(0)
            worths.append(priorities[event])
            ends.append([end])
        return owners, worths, ends
