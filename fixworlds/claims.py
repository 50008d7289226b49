"""Claims: sets of statements of a closure, and what follows from them.

A claim is told as the ascending tuple of the places of its statements in the closure.
"""

TAKEN = ("true", "and", "least", "most")


class Claims:
    """The claims about a closure: which statement of a claim is taken apart first."""

    def __init__(self, closure):
        self._closure = closure
        places = {head: place for place, head in enumerate(closure.heads) if head[0] == "lacks"}
        self._clashing = {}
        for place, head in enumerate(closure.heads):
            if head[0] == "has" and ("lacks", head[1]) in places:
                self._clashing[place] = places[("lacks", head[1])]

    def clashes(self, claim):
        """True if a claim has false, or a fact both ways."""
        for place in claim:
            if self._closure.heads[place][0] == "false":
                return True
            if place in self._clashing and self._clashing[place] in claim:
                return True
        return False

    def kind_and_part(self, claim):
        """The kind of the node for a claim, and what is taken apart there; None for a step.

        An or with a part that clashes at once comes before others: it leaves one way to go on.
        """
        if self.clashes(claim):
            return "clash", None
        best = None
        fewest = 3
        for place in claim:
            word = self._closure.heads[place][0]
            if word in TAKEN:
                return "take", place
            if word == "or":
                left = len([part for part in self._closure.inner[place]
                            if not self.clashes(claim + (part,))])
                if left < fewest:
                    best, fewest = place, left
        return ("step", None) if best is None else ("either", best)


def ways_on(closure, claim, kind, part):
    """For each claim that follows one how its statements come from those of the claim.

    This is a list of pairs (source, target) of places; a statement that stays has them equal.
    """
    stays = [(place, place) for place in claim if place != part]
    inner = closure.inner
    if kind == "take":
        return [stays + [(part, target) for target in inner[part]]]
    if kind == "either":
        return [stays + [(part, target)] for target in inner[part]]
    if kind == "step":
        label = closure.heads[part][1]
        return [[(part, inner[part][0])] + behind_all(closure, claim, label)]
    return []


def behind_all(closure, claim, label):
    """The pairs of each all of a label in a claim and what is in it."""
    return [
        (place, closure.inner[place][0]) for place in claim if closure.heads[place] == ("all", label)
    ]
