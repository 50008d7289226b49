"""What is true at a state right there and behind each of its steps."""

from fixworlds.joins import any_of
from fixworlds.worlds import followers


def fact_signs(row, facts):
    """The list of statements that tell which of so many facts a state has and lacks."""
    return [("has" if fact in row else "lacks", fact) for fact in range(facts)]


def step_signs(world, state, labels, signs, numbers):
    """The list of statements that tell where the steps from a state lead, by signs of all states.

    States with the same number have signs that are true at the same states.
    """
    found = []
    for label in range(labels):
        chosen = {}
        for end in followers(world, state, label):
            chosen.setdefault(numbers[end], signs[end])
        ends = list(chosen.values())
        found.extend([("some", label, sign) for sign in ends])
        found.append(("all", label, any_of(ends)))
    return found
