"""Rows of machines that forget a fact.

A machine goes over the claims that a statement leads to, as the game about whether it is true
anywhere does. Where all is taken apart, player 0 has chosen one claim, and the row asks for its
facts but the one that is forgotten; for each some, for an end of its claim; and that each end
has one of these claims, or the claim of the rest, of which no some speaks. So each claim goes to
a state of its own, and whether this has the fact is told by its claim alone.
"""

from fixworlds.arenas import Arena
from fixworlds.contests import Contest
from fixworlds.errors import TooLarge
from fixworlds.joins import all_of, any_of
from fixworlds.machines import MOST_STATES
from fixworlds.parts import STEPPERS
from fixworlds.priorities import priorities_of, worth
from fixworlds.threads import Threads


class Forgetter:
    """Writes the rows and the priorities; the first row is the start.

    A state of the machine stands for a place in the arena and the greatest priority on the way
    to it from the last one.
    """

    def __init__(self, closure, fact):
        self._closure = closure
        self._fact = fact
        self._arena = Arena(closure, Threads(closure))
        self._rests = {}
        self._explore_all()
        owners, worths, ends = self._arena.game()
        winners = Contest(owners, worths, ends).winners
        self._true_somewhere = [winner == 0 for winner in winners]
        self._events = self._event_priorities()
        self._landings = {}
        self._states = {}
        self._places = []
        self.priorities = []
        self._state(0, 0)
        self.rows = []
        while len(self.rows) < len(self._places):
            self.rows.append(self._row(self._places[len(self.rows)]))

    def _explore_all(self):
        """Explores all places, also those to which only rests lead."""
        at = 0
        while at < len(self._arena.places):
            self._arena.explore(at)
            if self._arena.places[at].kind == "step":
                self._rests[at] = self._arena.rests(at)
            at += 1

    def _event_priorities(self):
        events = [event for place in self._arena.places for _, event, _ in place.moves]
        events.extend([event for rests in self._rests.values() for _, event, _ in rests])
        return priorities_of(events)

    def _landed(self, at):
        """A dict of the places of steps to which player 0 can come, with the best priorities."""
        if at in self._landings:
            return self._landings[at]
        place = self._arena.places[at]
        landed = {}
        if place.kind == "step" and self._true_somewhere[at]:
            landed[at] = 0
        elif self._true_somewhere[at]:
            for _, event, end in place.moves:
                for other, priority in self._landed(end).items():
                    priority = max(priority, self._events[event])
                    if other not in landed or worth(priority) > worth(landed[other]):
                        landed[other] = priority
        self._landings[at] = landed
        return landed

    def _state(self, at, priority):
        """The number of the state for a place and a priority."""
        landed = list(self._landed(at).items())
        if len(landed) == 1:
            at, priority = landed[0][0], max(priority, landed[0][1])
        if (at, priority) not in self._states:
            if len(self._places) == MOST_STATES:
                raise TooLarge("the machine has more than 400 states")
            self._states[(at, priority)] = len(self._places)
            self._places.append(at)
            self.priorities.append(priority)
        return self._states[(at, priority)]

    def _row(self, at):
        """The row of a place: one of the claims to which player 0 can come holds."""
        return any_of([self._held(landing, priority) for landing, priority in self._landed(at).items()])

    def _held(self, at, priority):
        """What is asked if player 0 has come to a place of steps with a priority."""
        heads = [self._closure.heads[each] for each in self._arena.places[at].claim]
        asked = [head for head in heads if head[0] in ("has", "lacks") and head[1] != self._fact]
        ends = {}
        for part, event, end in self._arena.places[at].moves:
            head = self._closure.heads[part]
            follower = self._follower(end, max(priority, self._events[event]))
            asked.append(head + (follower,))
            ends.setdefault(head[1], []).append(follower)
        for label, event, end in self._rests[at]:
            row = list(ends.get(label, []))
            if self._true_somewhere[end]:
                row.append(self._follower(end, max(priority, self._events[event])))
            if ("true",) not in row:
                asked.append(("all", label, any_of(row)))
        return all_of(asked)

    def _follower(self, at, priority):
        """What is asked behind a step: a state of the machine, or its row if this has no steps."""
        landed = list(self._landed(at))
        if len(landed) == 1 and not self._has_steps(landed[0]):
            return self._held(landed[0], 0)
        return "var", self._state(at, priority)

    def _has_steps(self, at):
        return any([self._closure.heads[each][0] in STEPPERS for each in self._arena.places[at].claim])
