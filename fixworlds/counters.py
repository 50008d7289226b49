"""Threads through claims, followed by counting: fewer states than names, but not as exact.

Each statement of a claim has a count for each odd rank: how many binders of this rank a thread
has unfolded since it last unfolded one that counts more. Of threads that meet the one with the
greatest counts stays. Where no count gets too great there is no bad thread; where one does, the
place is given up, though there may be none either.
"""


class Counters:
    """Follows the threads through claims of a closure by counts up to a greatest one.

    A state is a tuple of pairs (place, counts), ascending, and an empty tuple.
    """

    def __init__(self, closure, most):
        self._closure = closure
        self._most = most
        odd_ranks = sorted({rank for rank in closure.ranks.values() if rank & 1})
        self._odd_ranks = odd_ranks[::-1]

    def first(self):
        """The state for the claim of the statement of the closure alone."""
        return ((self._closure.top, self._zero()),), ()

    def _zero(self):
        return tuple([0 for _ in self._odd_ranks])

    def followed(self, state, pairs):
        """No event, and the next state, or None if a count gets too great."""
        known = dict(state[0])
        found = {}
        for source, target in pairs:
            counts = known[source]
            if source != target:
                counts = self._passed(source, target, counts)
            if max(counts, default=0) > self._most:
                return None, None
            if target not in found or counts > found[target]:
                found[target] = counts
        return None, (tuple([(place, found[place]) for place in sorted(found)]), ())

    def _passed(self, source, target, counts):
        """The counts of a thread that goes on to another statement."""
        if self._closure.components[source] != self._closure.components[target]:
            return self._zero()
        if source not in self._closure.ranks:
            return counts
        rank = self._closure.ranks[source]
        passed = []
        for odd, count in zip(self._odd_ranks, counts):
            if odd == rank:
                count += 1
            passed.append(count if odd >= rank else 0)
        return tuple(passed)
