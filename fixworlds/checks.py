"""Whether refutations are right."""

from fixworlds.claims import TAKEN, ways_on
from fixworlds.closures import Closure
from fixworlds.games import has_lost_loop
from fixworlds.limits import ascends, is_number
from fixworlds.parts import BINDERS
from fixworlds.priorities import priorities_of
from fixworlds.statements import tidy, unfolded
from fixworlds.threads import Threads


class Check:
    """Tells whether a refutation of a closed guarded statement is right."""

    def __init__(self, statement, refutation):
        self._statement = statement
        self._nodes = refutation
        self._unfoldings = []

    def is_right(self):
        """True if all nodes are as told and each endless row has a bad thread."""
        if not self._nodes or self._nodes[0][0] != (tidy(self._statement),):
            return False
        if not all([self._is_told(node) for node in self._nodes]):
            return False
        return not self._has_row_without_bad_thread()

    def _is_told(self, node):
        """True if a node is as its kind and part ask."""
        claim, kind, part, following = node
        for index in following:
            if not is_number(index, 0, len(self._nodes) - 1):
                return False
        if not ascends(claim):
            return False
        if kind == "clash":
            return part is None and len(following) == 0 and has_clash(claim)
        if part not in claim:
            return False
        expected = self._expected(claim, kind, part)
        return expected is not None and [self._nodes[index][0] for index in following] == expected

    def _expected(self, claim, kind, part):
        """The list of the claims that must follow, or None if the part is none for the kind."""
        word = part[0]
        if kind == "take" and word in TAKEN:
            if word in BINDERS:
                return [replaced(claim, part, [self._unfolding(part)])]
            return [replaced(claim, part, list(part[1:]))]
        if kind == "either" and word == "or":
            return [replaced(claim, part, [part[1]]), replaced(claim, part, [part[2]])]
        if kind == "step" and word == "some":
            behind = [each[2] for each in claim if each[:2] == ("all", part[1])]
            return [ascending([part[2]] + behind)]
        return None

    def _unfolding(self, binder):
        """The unfolding of a binder; it is kept, as most stand in many claims."""
        for known, unfolding in self._unfoldings:
            if known == binder:
                return unfolding
        self._unfoldings.append((binder, unfolded(binder)))
        return self._unfoldings[-1][1]

    def _has_row_without_bad_thread(self):
        """True if some endless row of nodes from the first one has no bad thread."""
        closure = Closure(self._statement)
        threads = Threads(closure)
        order = [(0, threads.first(), None)]
        numbers = {order[0]: 0}
        ways = {}
        while len(ways) < len(order):
            index, state, _ = order[len(ways)]
            told, kind, part, following = self._nodes[index]
            claim = [place for place, _ in state[0]]
            place = None if part is None else claim[told.index(part)]
            ends = []
            for end, pairs in zip(following, ways_on(closure, claim, kind, place)):
                event, after = threads.followed(state, pairs)
                met = (end, after, event)
                if met not in numbers:
                    numbers[met] = len(order)
                    order.append(met)
                ends.append(numbers[met])
            ways[len(ways)] = ends
        events = [event for _, _, event in order]
        priorities = priorities_of(events)
        return has_lost_loop([priorities[event] for event in events], 1, ways)


def has_clash(claim):
    """True if statements have false, or a fact both ways."""
    if ("false",) in claim:
        return True
    return any([each[0] == "has" and ("lacks", each[1]) in claim for each in claim])


def replaced(claim, part, statements):
    """The claim with some statements in place of a part."""
    return ascending([each for each in claim if each != part] + statements)


def ascending(statements):
    """The claim with some statements."""
    claim = []
    for statement in sorted(statements):
        if not claim or claim[-1] != statement:
            claim.append(statement)
    return tuple(claim)
