"""What priorities are worth."""


def worth(priority):
    """How much it is worth for player 0 to visit a priority: it can replace any that is worth less."""
    return -priority if priority & 1 else priority


def priorities_of(events):
    """A dict with the priority of each event of threads; None, which is no event, has 0.

    Lesser events have greater priorities. They are even where player 0 wins if they are met
    again and again, and greater ones are not.
    """
    known = [event for event in events if event is not None]
    top = 2 + 2 * (max(known, default=0) // 2)
    priorities = {event: top - event for event in known}
    priorities[None] = 0
    return priorities
