"""Rows of machines that forget facts.

A machine goes over the claims that a statement leads to, as the game about whether it is true
anywhere does. Where all is taken apart, player 0 has chosen one claim, and the row asks for its
facts but those that are forgotten; for each some, for an end of its claim; and that each end
has one of these claims, or the claim of the rest, of which no some speaks. So each claim goes to
a state of its own, and whether this has such a fact is told by its claim alone.
"""

from fixworlds.arenas import Arena
from fixworlds.contests import Contest
from fixworlds.errors import TooLarge
from fixworlds.joins import all_of, any_of
from fixworlds.machines import MOST_STATES
from fixworlds.parts import STEPPERS
from fixworlds.priorities import event_worth, first_event, priorities_of
from fixworlds.threads import Threads

MOST_PLACES = 50000


class Forgetter:
    """Writes the rows and the priorities; the first row is the start.

    A state of the machine stands for a place in the arena and the first event on the way to it
    from the last one. Rows without the claims that are true nowhere accept the same. So they
    are left out where the arena shows it; of a large arena only so many places are looked at.
    """

    def __init__(self, closure, facts):
        self._closure = closure
        self._facts = list(facts)
        self._arena = Arena(closure, Threads(closure))
        self._explore_most()
        self._true_nowhere = self._lost_places()
        self._landings = {}
        self._states = {}
        self._places = []
        self._events = []
        self._state(0, None)
        self.rows = []
        while len(self.rows) < len(self._places):
            self.rows.append(self._row(self._places[len(self.rows)]))
        priorities = priorities_of(self._events)
        self.priorities = [priorities[event] for event in self._events]

    def _explore_most(self):
        """Explores places, as they are met, also those to which only rests lead."""
        at = 0
        while at < min(len(self._arena.places), MOST_PLACES):
            self._arena.explore(at)
            if self._arena.places[at].kind == "step":
                self._arena.rests(at)
            at += 1

    def _lost_places(self):
        """A dict of the places of which it is known by now that player 1 wins."""
        owners, worths, ends = self._arena.game()
        winners = Contest(owners, worths, ends).winners
        return {at: True for at in range(len(self._arena.places)) if winners[at] == 1}

    def _landed(self, at):
        """A dict of the places of steps to which player 0 can come, with the best first events."""
        if at in self._landings:
            return self._landings[at]
        self._arena.explore(at)
        place = self._arena.places[at]
        landed = {}
        if at not in self._true_nowhere and place.kind == "step":
            landed[at] = None
        elif at not in self._true_nowhere:
            for _, event, end in place.moves:
                for other, behind in self._landed(end).items():
                    first = first_event(event, behind)
                    if other not in landed or event_worth(first) > event_worth(landed[other]):
                        landed[other] = first
        self._landings[at] = landed
        return landed

    def _state(self, at, event):
        """The number of the state for a place and an event."""
        landed = list(self._landed(at).items())
        if len(landed) == 1:
            at, event = landed[0][0], first_event(event, landed[0][1])
        if (at, event) not in self._states:
            if len(self._places) == MOST_STATES:
                raise TooLarge("the machine has more than 400 states")
            self._states[(at, event)] = len(self._places)
            self._places.append(at)
            self._events.append(event)
        return self._states[(at, event)]

    def _row(self, at):
        """The row of a place: one of the claims to which player 0 can come holds."""
        return any_of([self._held(landing, event) for landing, event in self._landed(at).items()])

    def _held(self, at, before):
        """What is asked if player 0 has come to a place of steps, with an event before it."""
        heads = [self._closure.heads[each] for each in self._arena.places[at].claim]
        asked = [head for head in heads if head[0] in ("has", "lacks") and head[1] not in self._facts]
        ends = {}
        for part, event, end in self._arena.places[at].moves:
            head = self._closure.heads[part]
            follower = self._follower(end, first_event(before, event))
            asked.append(head + (follower,))
            ends.setdefault(head[1], []).append(follower)
        for label, event, end in self._arena.rests(at):
            row = list(ends.get(label, []))
            if end not in self._true_nowhere:
                row.append(self._follower(end, first_event(before, event)))
            if ("true",) not in row:
                asked.append(("all", label, any_of(row)))
        return all_of(asked)

    def _follower(self, at, event):
        """What is asked behind a step: a state of the machine, or its row if this has no steps."""
        landed = list(self._landed(at))
        if len(landed) == 1 and not self._has_steps(landed[0]):
            return self._held(landed[0], None)
        return "var", self._state(at, event)

    def _has_steps(self, at):
        return any([self._closure.heads[each][0] in STEPPERS for each in self._arena.places[at].claim])
