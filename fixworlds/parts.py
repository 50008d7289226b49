"""The parts of a statement, in the order in which they are written from the left.

A statement may be nested deeper than calls can be, so all passes over statements are loops
over this order: a part stands before the parts in it.
"""

BINDERS = ("least", "most")
JOINS = ("and", "or")
STEPPERS = ("some", "all")


class Part:
    """One part: its head, the place of the part directly around it, and the places directly in it.

    The head is what a statement begins with: its word and, unless it joins two, its number.
    """

    def __init__(self, head, around):
        self.head = head
        self.around = around
        self.inner = []


def head_of(statement):
    """What a statement begins with: all but the statements in it."""
    if statement[0] in JOINS:
        return statement[:1]
    return statement[:2]


def parts_of(statement):
    """The list of all parts; the part around the whole has the place -1."""
    parts = []
    waiting = [(statement, -1)]
    while waiting:
        told, around = waiting.pop()
        head = head_of(told)
        at = len(parts)
        parts.append(Part(head, around))
        if around >= 0:
            parts[around].inner.append(at)
        for within in reversed(told[len(head):]):
            waiting.append((within, at))
    return parts


def built(parts, heads):
    """The statement that has other heads at the places of these parts."""
    made = [()] * len(parts)
    for at in reversed(range(len(parts))):
        made[at] = heads[at] + tuple([made[place] for place in parts[at].inner])
    return made[0]


def nearest_around(parts, words):
    """For each part the place of the innermost part around it with one of these words, or -1."""
    nearest = []
    for part in parts:
        around = part.around
        if around >= 0 and parts[around].head[0] not in words:
            around = nearest[around]
        nearest.append(around)
    return nearest


def binder_places(parts):
    """For each variable that is bound the place of its binder; -1 for all other parts."""
    nearest = nearest_around(parts, BINDERS)
    places = []
    for at, part in enumerate(parts):
        place = -1
        if part.head[0] == "var":
            place = nearest[at]
            while place >= 0 and parts[place].head[1] != part.head[1]:
                place = nearest[place]
        places.append(place)
    return places


def facts_in(statement):
    """The ascending list of the facts that a statement mentions."""
    return sorted({part.head[1] for part in parts_of(statement) if part.head[0] in ("has", "lacks")})
