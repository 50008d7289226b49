"""How often least and greatest fixed points alternate in a statement."""

from fixworlds.parts import BINDERS, binder_places, nearest_around, parts_of
from fixworlds.statements import ensure_closed


def alternation(statement):
    """The alternation of the tidy form of a closed statement."""
    # It does not depend on how the variables are called.
    ensure_closed(statement)
    parts = parts_of(statement)
    speaking = speaking_binders(parts)
    found = [0] * len(parts)
    for at in reversed(range(len(parts))):
        known = [found[place] for place in parts[at].inner]
        if parts[at].head[0] in BINDERS:
            known.append(1)
            known.extend([1 + found[place] for place in speaking[at]])
        found[at] = max(known, default=0)
    return found[0]


def speaking_binders(parts):
    """For each binder the list of those of the other kind within it in which its variable is free."""
    nearest = nearest_around(parts, BINDERS)
    speaking = {at: [] for at, part in enumerate(parts) if part.head[0] in BINDERS}
    for at, binder in enumerate(binder_places(parts)):
        if binder >= 0:
            between = nearest[at]
            while between != binder:
                if parts[between].head[0] != parts[binder].head[0]:
                    speaking[binder].append(between)
                between = nearest[between]
    return speaking
