"""States that are like one another, found in rounds."""

from fixworlds.masks import led, states_in, step_masks


class Rounds:
    """Sets of states, as masks, that are parted round by round.

    At first states with the same facts are together. A round parts two states if a step of the
    one leads to a set to which no step of the other one with the same label leads.
    """

    def __init__(self, rows, steps):
        self._many = len(rows)
        labels = sorted({label for _, label, _ in steps})
        self._before = [step_masks(len(rows), steps, label)[1] for label in labels]
        self._blocks = like_at_once(rows)
        self._fresh = self._blocks

    def advance(self):
        """Does a round; returns True if it parts something.

        Only sets that are new since the last round can part others.
        """
        cuts = sorted({led(before, block) for before in self._before for block in self._fresh})
        kept = []
        fresh = []
        for block in self._blocks:
            pieces = cut_up(block, cuts)
            if len(pieces) == 1:
                kept.append(block)
            else:
                fresh.extend(pieces)
        self._blocks = kept + fresh
        self._fresh = fresh
        return len(fresh) > 0

    def numbers(self):
        """The tuple of the numbers of the sets of all states, by ascending least states."""
        numbers = [0] * self._many
        for number, block in enumerate(sorted(self._blocks, key=least_of)):
            for state in states_in(block):
                numbers[state] = number
        return tuple(numbers)


def like_at_once(rows):
    """The sets of the states with the same facts."""
    blocks = {}
    for state, row in enumerate(rows):
        blocks[row] = blocks.get(row, 0) | 1 << state
    return list(blocks.values())


def cut_up(block, cuts):
    """The pieces of a set that are left if it is cut along others."""
    pieces = [block]
    for cut in cuts:
        halves = [half for piece in pieces for half in (piece & cut, piece & ~cut)]
        pieces = [half for half in halves if half]
    return pieces


def least_of(block):
    """The least state of a set, as a set."""
    return block & -block


def folded_rows(rows, steps):
    """The facts of the classes of states, the steps between classes, and the classes' numbers."""
    rounds = Rounds(rows, steps)
    while rounds.advance():
        pass
    numbers = rounds.numbers()
    kept = {}
    for row, number in zip(rows, numbers):
        kept[number] = row
    folded_steps = sorted({(numbers[start], label, numbers[end]) for start, label, end in steps})
    return [kept[number] for number in range(len(kept))], folded_steps, numbers


def all_rounds(world):
    """The list of the numbers of all states before the first round and behind each one."""
    rounds = Rounds(world.states, world.steps)
    found = [rounds.numbers()]
    while rounds.advance():
        found.append(rounds.numbers())
    return found


def first_round(rounds, first, second):
    """How many rounds it takes to part two states that are not like one another."""
    at = 0
    while rounds[at][first] == rounds[at][second]:
        at += 1
    return at
