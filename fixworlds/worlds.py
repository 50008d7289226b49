"""Worlds: states, the facts that they have, and labelled steps between them."""

from fixworlds.errors import InvalidWorld
from fixworlds.limits import ascends, is_number

MOST_LABELS = 3
MOST_FACTS = 6
MOST_STATES = 400
MOST_DIGITS = 3


class World:
    """A world: numbers of labels and facts, the facts of each state, and ascending steps."""

    def __init__(self, labels, facts, states, steps):
        self.labels = labels
        self.facts = facts
        self.states = tuple([tuple(row) for row in states])
        self.steps = tuple(sorted([tuple(step) for step in steps]))
        check_numbers(labels, facts)
        check_states(self)
        check_steps(self)
        self._ends = ends_of(self.steps)


def check_numbers(labels, facts):
    """Raises InvalidWorld if a world cannot have so many labels and facts."""
    if not is_number(labels, 1, MOST_LABELS):
        raise InvalidWorld("a world has 1 to 3 labels")
    if not is_number(facts, 0, MOST_FACTS):
        raise InvalidWorld("a world has 0 to 6 facts")


def check_states(world):
    """Raises InvalidWorld if the states of a world are too few or many, or their facts wrong."""
    if not is_number(len(world.states), 1, MOST_STATES):
        raise InvalidWorld("a world has 1 to 400 states")
    for row in world.states:
        for fact in row:
            if not is_number(fact, 0, world.facts - 1):
                raise InvalidWorld("a state has a fact that is not there")
        if not ascends(row):
            raise InvalidWorld("the facts of a state do not ascend")


def check_steps(world):
    """Raises InvalidWorld if a step of a world is wrong or stands twice."""
    greatest = len(world.states) - 1
    for step in world.steps:
        if len(step) != 3 or not is_number(step[1], 0, world.labels - 1):
            raise InvalidWorld("a step has no label that is there")
        if not is_number(step[0], 0, greatest) or not is_number(step[2], 0, greatest):
            raise InvalidWorld("a step has a state that is not there")
    if not ascends(world.steps):
        raise InvalidWorld("a step stands twice")


def ends_of(steps):
    """The dict with the list of the followers for each pair (state, label) that has some."""
    ends = {}
    for start, label, end in steps:
        ends.setdefault((start, label), []).append(end)
    return ends


def followers(world, state, label):
    """The list of the states to which steps with a label lead."""
    return list(world._ends.get((state, label), []))


def reachable_part(world, starts):
    """The world of the states that can be reached from some start, and the list of these states."""
    order = []
    places = {}
    for start in starts:
        take_place(start, order, places)
    done = 0
    while done < len(order):
        for label in range(world.labels):
            for end in followers(world, order[done], label):
                take_place(end, order, places)
        done += 1
    states = [world.states[state] for state in order]
    steps = [(places[start], label, places[end])
             for start, label, end in world.steps if start in places]
    return World(world.labels, world.facts, states, steps), order


def take_place(state, order, places):
    """Puts a state at the end of an order, unless it is there."""
    if state not in places:
        places[state] = len(order)
        order.append(state)


def side_by_side(first, second):
    """The world with the states of the first, and behind them those of the second."""
    shift = len(first.states)
    moved = [(start + shift, label, end + shift) for start, label, end in second.steps]
    return World(
        max(first.labels, second.labels),
        max(first.facts, second.facts),
        first.states + second.states,
        first.steps + tuple(moved),
    )


def format_world(world):
    """The text of a world."""
    lines = [line_of("world", (world.labels, world.facts, len(world.states)))]
    lines.extend([line_of("state", row) for row in world.states])
    lines.extend([line_of("step", step) for step in world.steps])
    return "".join(lines)


def line_of(word, numbers):
    """A line with a word and numbers."""
    return " ".join([word] + [str(number) for number in numbers]) + "\n"


def parse_world(text):
    """The world that a text writes."""
    rows = [row_of(line) for line in text.split("\n")[:-1]]
    if not rows or len(rows[0][1]) != 3:
        raise InvalidWorld("a text of a world begins with three numbers")
    labels, facts, _ = rows[0][1]
    states = [numbers for word, numbers in rows if word == "state"]
    steps = [numbers for word, numbers in rows if word == "step"]
    world = World(labels, facts, states, steps)
    # Each world has one text: so this refuses all that was passed over above.
    if format_world(world) != text:
        raise InvalidWorld("the text is not the one of a world")
    return world


def row_of(line):
    """The word of a line, and the list of the numbers behind it."""
    words = line.split(" ")
    for word in words[1:]:
        if not word.isdecimal() or len(word) > MOST_DIGITS:
            raise InvalidWorld("a line has something that is no number of a world")
    return words[0], [int(word) for word in words[1:]]
