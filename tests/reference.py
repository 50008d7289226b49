"""What the document says, computed in the plainest way, and statements and worlds to try it on."""

import itertools
import random


def meaning(states, steps, statement, known):
    """The set of the states at which a statement is true (point 12); known has sets of variables."""
    every = set(range(len(states)))
    word = statement[0]
    if word == "true":
        return every
    if word == "false":
        return set()
    if word in ("has", "lacks"):
        having = {s for s in every if statement[1] in states[s]}
        return having if word == "has" else every - having
    if word == "var":
        return known[statement[1]]
    if word in ("and", "or"):
        left = meaning(states, steps, statement[1], known)
        right = meaning(states, steps, statement[2], known)
        return left & right if word == "and" else left | right
    if word in ("some", "all"):
        inner = meaning(states, steps, statement[2], known)
        ends = {s: [e for b, a, e in steps if b == s and a == statement[1]] for s in every}
        if word == "some":
            return {s for s in every if any(e in inner for e in ends[s])}
        return {s for s in every if all(e in inner for e in ends[s])}
    reached = set() if word == "least" else every
    while True:
        following = meaning(states, steps, statement[2], {**known, statement[1]: reached})
        if following == reached:
            return reached
        reached = following


def free_in(statement):
    """The set of the variables that are free in a statement."""
    word = statement[0]
    if word == "var":
        return {statement[1]}
    inner = set()
    for part in statement[1:]:
        if isinstance(part, tuple):
            inner |= free_in(part)
    return inner - {statement[1]} if word in ("least", "most") else inner


def size(statement):
    """The number of parts."""
    return 1 + sum(size(part) for part in statement[1:] if isinstance(part, tuple))


def inserted(statement, variable, whole):
    """A statement with a closed statement in place of a variable where it is free."""
    word = statement[0]
    if word == "var":
        return whole if statement[1] == variable else statement
    if word in ("least", "most") and statement[1] == variable:
        return statement
    return tuple(
        inserted(part, variable, whole) if isinstance(part, tuple) else part for part in statement
    )


def guarded_under(statement, open_variables):
    """True if a statement is guarded, and no open variable occurs in it without a step around."""
    word = statement[0]
    if word == "var":
        return statement[1] not in open_variables
    if word in ("some", "all"):
        return guarded_under(statement[2], set())
    if word in ("least", "most"):
        return guarded_under(statement[2], open_variables | {statement[1]})
    return all(guarded_under(part, open_variables)
               for part in statement[1:] if isinstance(part, tuple))


def random_statement(rng, parts, bound=(), labels=2, facts=2, free=()):
    """A statement of about so many parts, whose free variables are among those told."""
    variables = list(bound) + list(free)
    if parts <= 1:
        if variables and rng.random() < 0.6:
            return ("var", rng.choice(variables))
        return rng.choice([
            ("true",), ("false",), ("has", rng.randrange(facts)), ("lacks", rng.randrange(facts)),
        ])
    word = rng.choice(("and", "or", "some", "all", "least", "most"))
    if word in ("and", "or") and parts > 2:
        left = rng.randint(1, parts - 2)
        return (
            word,
            random_statement(rng, left, bound, labels, facts, free),
            random_statement(rng, parts - 1 - left, bound, labels, facts, free),
        )
    if word in ("least", "most"):
        variable = rng.randrange(5)
        return (word, variable,
                random_statement(rng, parts - 1, tuple(bound) + (variable,), labels, facts, free))
    word = rng.choice(("some", "all"))
    return (word, rng.randrange(labels),
            random_statement(rng, parts - 1, bound, labels, facts, free))


def random_world(rng, states, labels=2, facts=2, chance=0.3):
    """The four parts of a world."""
    rows = [[p for p in range(facts) if rng.random() < 0.5] for _ in range(states)]
    steps = [
        step for step in itertools.product(range(states), range(labels), range(states))
        if rng.random() < chance
    ]
    rng.shuffle(steps)
    return labels, facts, rows, steps


def generator(seed):
    """A source of numbers that is the same in each run."""
    return random.Random(seed)


def likeness(states, steps, one_sided=False):
    """The pairs (s, t) that point 20 tells of: like one another, or t can do all that s can."""
    every = range(len(states))
    pairs = {(s, t) for s in every for t in every if set(states[s]) == set(states[t])}

    def follows_all(s, t, turn):
        return all(
            any(b == t and other == label and ((e, end) if turn else (end, e)) in pairs
                for b, other, e in steps)
            for begin, label, end in steps if begin == s)

    while True:
        left = {(s, t) for s, t in pairs
                if follows_all(s, t, False) and (one_sided or follows_all(t, s, True))}
        if left == pairs:
            return pairs
        pairs = left


def classes_of(many, pairs):
    """The numbers of classes, by ascending least states, of a relation that parts states."""
    least = [min(t for t in range(many) if (s, t) in pairs) for s in range(many)]
    order = sorted(set(least))
    return tuple(order.index(each) for each in least)


def shuffled_copy(rng, labels, facts, states, steps):
    """The parts of a world in which each state stands twice, like the one that it is a copy of."""
    many = len(states)
    copied = set()
    for begin, label, end in steps:
        for shift in (0, many):
            ends = rng.choice([(0,), (many,), (0, many)])
            copied |= {(begin + shift, label, end + other) for other in ends}
    return labels, facts, list(states) + list(states), sorted(copied)


def small_worlds(labels=1, facts=1, most=2):
    """The four parts of each world with so many labels and facts and at most so many states."""
    rows = [row for many in range(facts + 1) for row in itertools.combinations(range(facts), many)]
    for many in range(1, most + 1):
        steps = list(itertools.product(range(many), range(labels), range(many)))
        for states in itertools.product(rows, repeat=many):
            for chosen in itertools.product((False, True), repeat=len(steps)):
                yield labels, facts, [list(row) for row in states], [
                    step for step, taken in zip(steps, chosen) if taken]


def rows_from(many, steps, label, state):
    """All rows of states along steps with a label as far as they go.

    Those that go on are cut where they have one state more than there are: so they have a loop.
    """
    waiting, found = [[state]], []
    while waiting:
        row = waiting.pop()
        ends = [end for begin, other, end in steps if begin == row[-1] and other == label]
        if ends and len(row) <= many:
            waiting += [row + [end] for end in ends]
        else:
            found.append(row)
    return found
