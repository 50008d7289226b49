"""Point 31: path statements."""

import unittest

from fixworlds.parts import parts_of
from fixworlds.paths import path_statement, path_truth
from fixworlds.stages import truth
from fixworlds.worlds import World
from tests.reference import free_in, generator, random_world, rows_from, size, small_worlds

TRUE, FALSE, P, Q = ("true",), ("false",), ("has", 0), ("has", 1)
NOT_P, NOT_Q = ("lacks", 0), ("lacks", 1)


def until_on(row, before, goal):
    """True if a goal is reached on a row, and something else is so at all states before."""
    return any(row[at] in goal and all(state in before for state in row[:at]) for at in range(len(row)))


def path_meaning(states, steps, path):
    """The set of the states at which a path statement is true, by all rows of steps (point 31)."""
    every = range(len(states))
    word = path[0]
    if word in ("true", "false"):
        return set(every) if word == "true" else set()
    if word in ("has", "lacks"):
        return {s for s in every if (path[1] in states[s]) == (word == "has")}
    inner = [path_meaning(states, steps, part) for part in path[1:] if isinstance(part, tuple)]
    if word == "and":
        return inner[0] & inner[1]
    if word == "or":
        return inner[0] | inner[1]
    if word in ("some", "all"):
        ends = {s: [e for b, a, e in steps if b == s and a == path[1]] for s in every}
        asked = any if word == "some" else all
        return {s for s in every if asked(end in inner[0] for end in ends[s])}
    rows = {s: rows_from(len(states), steps, path[1], s) for s in every}
    if word == "someuntil":
        return {s for s in every if any(until_on(row, *inner) for row in rows[s])}
    if word == "alluntil":
        return {s for s in every if all(until_on(row, *inner) for row in rows[s])}
    if word == "somealways":
        return {s for s in every if any(set(row) <= inner[0] for row in rows[s])}
    return {s for s in every if all(set(row) <= inner[0] for row in rows[s])}


def random_path(rng, parts, labels=2, facts=2):
    """A path statement of about so many parts."""
    if parts <= 1:
        return rng.choice([TRUE, FALSE] + [(word, rng.randrange(facts)) for word in ("has", "lacks") * 2])
    label = rng.randrange(labels)
    if parts == 2 or rng.random() < 0.4:
        word = rng.choice(("some", "all", "somealways", "allalways"))
        return (word, label, random_path(rng, parts - 1, labels, facts))
    left = rng.randint(1, parts - 2)
    inner = random_path(rng, left, labels, facts), random_path(rng, parts - 1 - left, labels, facts)
    word = rng.choice(("and", "or", "someuntil", "alluntil"))
    return (word,) + inner if word in ("and", "or") else (word, label) + inner


class Paths(unittest.TestCase):
    def check(self, world, path, expected):
        self.assertEqual(path_truth(world, path), expected)
        statement = path_statement(path)
        self.assertEqual(free_in(statement), set())
        self.assertEqual(truth(world, statement), expected)
        self.assertEqual(path_meaning(world.states, world.steps, path), set(expected))

    def test_example(self):
        world = World(1, 1, [[0], [0], []], [(0, 0, 1), (1, 0, 2), (1, 0, 1)])
        self.check(world, ("somealways", 0, P), [0, 1])
        self.check(world, ("alluntil", 0, TRUE, NOT_P), [2])

    def test_until_without_any_step(self):
        world = World(2, 2, [[1], [], [0], [0, 1]], [(2, 0, 0), (2, 1, 1)])
        self.check(world, ("someuntil", 0, FALSE, Q), [0, 3])
        self.check(world, ("alluntil", 0, FALSE, Q), [0, 3])
        self.check(world, ("someuntil", 0, P, Q), [0, 2, 3])
        self.check(world, ("alluntil", 0, P, Q), [0, 2, 3])
        self.check(world, ("someuntil", 1, P, Q), [0, 3])
        self.check(world, ("alluntil", 1, P, Q), [0, 3])

    def test_before_the_goal_each_state_counts(self):
        # On the row 0 1 2 3 the first is broken at 1; the goal need not have what is before it.
        world = World(1, 2, [[0], [], [0], [1]], [(0, 0, 1), (1, 0, 2), (2, 0, 3)])
        self.check(world, ("someuntil", 0, P, Q), [2, 3])
        self.check(world, ("alluntil", 0, P, Q), [2, 3])
        self.check(world, ("someuntil", 0, TRUE, Q), [0, 1, 2, 3])

    def test_row_that_ends(self):
        world = World(1, 2, [[0], [0], [0], [1]], [(0, 0, 1), (0, 0, 3), (2, 0, 3)])
        self.check(world, ("alluntil", 0, P, Q), [2, 3])
        self.check(world, ("someuntil", 0, P, Q), [0, 2, 3])
        self.check(world, ("somealways", 0, P), [0, 1])
        self.check(world, ("allalways", 0, P), [1])

    def test_row_without_end(self):
        world = World(1, 2, [[0], [0], [1], []], [(0, 0, 1), (1, 0, 0), (1, 0, 2), (3, 0, 1)])
        self.check(world, ("alluntil", 0, P, Q), [2])
        self.check(world, ("someuntil", 0, P, Q), [0, 1, 2])
        self.check(world, ("somealways", 0, P), [0, 1])
        self.check(world, ("somealways", 0, NOT_P), [2])
        self.check(world, ("allalways", 0, ("or", P, Q)), [0, 1, 2])

    def test_state_with_a_step_to_itself(self):
        world = World(1, 2, [[0], [0], [1]], [(0, 0, 0), (1, 0, 1), (1, 0, 2), (2, 0, 2)])
        self.check(world, ("somealways", 0, P), [0, 1])
        self.check(world, ("allalways", 0, P), [0])
        self.check(world, ("alluntil", 0, P, Q), [2])
        self.check(world, ("someuntil", 0, P, Q), [1, 2])
        self.check(world, ("allalways", 0, Q), [2])

    def test_own_state_counts(self):
        world = World(1, 1, [[], [0]], [(0, 0, 1), (1, 0, 1)])
        self.check(world, ("allalways", 0, P), [1])
        self.check(world, ("somealways", 0, P), [1])

    def test_one_label_alone(self):
        world = World(2, 1, [[0], [0], []], [(0, 0, 1), (0, 1, 2), (1, 1, 0)])
        self.check(world, ("allalways", 0, P), [0, 1])
        self.check(world, ("allalways", 1, P), [])
        # A row with the label 0 ends at 1, though there are other steps.
        self.check(world, ("somealways", 0, P), [0, 1])
        self.check(world, ("alluntil", 0, P, NOT_P), [2])
        self.check(world, ("alluntil", 1, P, NOT_P), [0, 1, 2])

    def test_labels_and_facts_that_the_world_has_not(self):
        world = World(1, 0, [[], []], [(0, 0, 1)])
        self.check(world, ("somealways", 2, ("lacks", 5)), [0, 1])
        self.check(world, ("alluntil", 2, TRUE, ("some", 0, TRUE)), [0])
        self.check(world, ("someuntil", 0, TRUE, ("has", 5)), [])

    def test_one_within_another(self):
        world = World(1, 2, [[0], [0], [1], [0, 1]], [(0, 0, 1), (1, 0, 0), (1, 0, 2), (2, 0, 3), (3, 0, 3)])
        inner = ("somealways", 0, P)
        self.check(world, inner, [0, 1, 3])
        self.check(world, ("allalways", 0, inner), [3])
        self.check(world, ("alluntil", 0, inner, ("allalways", 0, Q)), [2, 3])
        self.check(world, ("someuntil", 0, ("someuntil", 0, P, NOT_P), ("allalways", 0, Q)), [0, 1, 2, 3])
        self.check(world, ("somealways", 0, ("alluntil", 0, TRUE, ("someuntil", 0, NOT_P, Q))), [2, 3])
        self.check(world, ("some", 0, ("and", inner, ("all", 0, inner))), [1, 2, 3])

    def test_all_small_worlds(self):
        worlds = list(small_worlds())
        rng = generator(211)
        paths = [("someuntil", 0, P, NOT_P), ("alluntil", 0, P, NOT_P), ("alluntil", 0, NOT_P, P),
                 ("somealways", 0, P), ("allalways", 0, P), ("alluntil", 0, TRUE, ("somealways", 0, P))]
        paths += [random_path(rng, rng.randint(2, 8), 1, 1) for _ in range(60)]
        for path in paths:
            for parts in worlds:
                world = World(*parts)
                self.check(world, path, sorted(path_meaning(parts[2], parts[3], path)))

    def test_random(self):
        rng = generator(212)
        for _ in range(600):
            path = random_path(rng, rng.randint(1, 14))
            labels, facts, states, steps = random_world(rng, rng.randint(1, 4))
            self.check(World(labels, facts, states, steps), path, sorted(path_meaning(states, steps, path)))

    def test_forty_parts_within_one_another(self):
        path = P
        for at in range(39):
            path = (("somealways", "allalways", "some", "all")[at % 4], at % 2, path)
        self.assertEqual(len(parts_of(path)), 40)
        self.assertLess(size(path_statement(path)), 400)
        states = [[0] if at % 3 else [] for at in range(400)]
        steps = [(at, at % 2, (at * 7 + shift) % 400) for at in range(400) for shift in (1, 2)]
        world = World(2, 1, states, steps)
        self.assertEqual(path_truth(world, path), truth(world, path_statement(path)))
