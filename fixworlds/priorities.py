"""What priorities and events of threads are worth."""


def worth(priority):
    """How much it is worth for player 0 to visit a priority: it can replace any that is worth less."""
    return -priority if priority & 1 else priority


def priorities_of(events):
    """A dict with the priority of each event of threads; None, which is no event, has 0.

    Lesser events have greater priorities. They are even where player 0 wins if they are met
    again and again, and greater ones are not.
    """
    known = [event for event in events if event is not None]
    top = 2 + 2 * (max(known, default=0) // 2)
    priorities = {event: top - event for event in known}
    priorities[None] = 0
    return priorities


def first_event(event, other):
    """The event of two that counts: the lesser one; None is no event."""
    if event is None or other is None:
        return other if event is None else event
    return min(event, other)


def event_worth(event):
    """How much it is worth for player 0 to meet an event; greater ones of a kind matter less."""
    if event is None:
        return 0, 0
    return (-1, event) if event & 1 else (1, -event)
