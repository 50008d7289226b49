"""Threads through claims, followed all at once.

A thread goes from statement to statement of a closure. It is bad if, of all binders that are
unfolded on it again and again, the one that counts most is a least one. Whether a row of claims
has a bad thread is told by one play: each statement of a claim has names, the oldest first. A
thread gets a new name when it unfolds a least binder, and loses those of binders that count
less than one that it unfolds. If all statements with a name have a younger one of the same rank
right behind it, then each has unfolded such a binder since: the name is renewed, and the younger
ones go. So a bad thread is there exactly if a name stays for ever and is renewed again and again.

Names are numbered by age, and a name moves down if an older one goes. The event of a move is
twice the least name that goes, or once more than twice the least one that is renewed, whichever
is less; None if there is neither. A row of claims has a bad thread exactly if the least event
that is met again and again is odd.
"""


class Threads:
    """Follows the threads through claims of a closure.

    A state is a tuple of pairs (place, names), ascending, and a tuple with the rank of each name.
    """

    def __init__(self, closure):
        self._closure = closure

    def first(self):
        """The state for the claim of the statement of the closure alone."""
        return ((self._closure.top, ()),), ()

    def followed(self, state, pairs):
        """The event and the next state, if threads go on from sources to targets.

        The pairs (source, target) are places; a statement that stays is a pair of the same places.
        """
        marks, ranks = state
        known = dict(marks)
        longer = list(ranks)
        found = {}
        for source, target in pairs:
            names = known[source]
            if source != target:
                names = self._passed(source, target, names, longer)
            if target not in found or order_of(names, longer) < order_of(found[target], longer):
                found[target] = names
        return settled(found, longer, len(ranks))

    def _passed(self, source, target, names, ranks):
        """The names of a thread that goes on to another statement; a new one gets its rank."""
        if self._closure.components[source] != self._closure.components[target]:
            # No thread comes back from there: what was unfolded before does not count.
            return ()
        if source not in self._closure.ranks:
            return names
        rank = self._closure.ranks[source]
        names = tuple([name for name in names if ranks[name] >= rank])
        if rank & 1 == 0:
            return names
        ranks.append(rank)
        return names + (len(ranks) - 1,)


def order_of(names, ranks):
    """The order in which threads are kept that meet: greater ranks and older names come first.

    Of two threads that agree so far, the one with more names comes first.
    """
    return [(-ranks[name], name) for name in names] + [(1, 0)]


def settled(found, ranks, many):
    """The event and the state, once names are renewed and numbered anew; many of them are old."""
    covered = covered_names(found, ranks)
    found = {place: cut(names, covered) for place, names in found.items()}
    kept = sorted({name for names in found.values() for name in names})
    numbers = {name: number for number, name in enumerate(kept)}
    events = [2 * name + 1 for name in covered] + [2 * name for name in range(many) if name not in numbers]
    marks = [(place, tuple([numbers[old] for old in found[place]])) for place in sorted(found)]
    return min(events, default=None), (tuple(marks), tuple([ranks[name] for name in kept]))


def covered_names(found, ranks):
    """The list of the names that have one of the same rank right behind them wherever they stand."""
    covered = {}
    for names in found.values():
        for at, name in enumerate(names):
            same = at + 1 < len(names) and ranks[names[at + 1]] == ranks[name]
            covered[name] = same and covered.get(name, True)
    return [name for name in covered if covered[name]]


def cut(names, covered):
    """The names as far as to the first one that is renewed."""
    for at, name in enumerate(names):
        if name in covered:
            return names[:at + 1]
    return names
