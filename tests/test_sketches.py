"""Points 38 and 39: sketches."""

import itertools
import unittest

from fixworlds.errors import InvalidWorld, NotClosed
from fixworlds.sketches import Sketch, possibly_true, refines, surely_true
from fixworlds.stages import truth
from fixworlds.statements import opposite
from fixworlds.texts import parse_statement
from fixworlds.worlds import World
from tests.reference import generator, random_statement, random_world

TEXTS = (
    "true", "false", "p0", "!p0", "p5", "!p5", "<0> p0", "[0] p0", "<0> true", "[0] false", "<2> true", "[2] false",
    "mu x0. p0 | <0> x0", "mu x0. p0 | [0] x0", "nu x0. p0 & <0> x0", "nu x0. !p0 & [0] x0",
    "nu x0. mu x1. <0> (p0 & x0 | x1)", "mu x0. nu x1. [0] (p0 & x1 | x0)", "p0 | !p0", "p0 & !p0",
)


def sketch_meaning(sketch, statement, sure, known):
    """The states at which a statement is surely true, or may be true, word by word as in point 38."""
    every = set(range(len(sketch.sure)))
    word = statement[0]
    if word in ("true", "false"):
        return every if word == "true" else set()
    if word in ("has", "lacks"):
        surely = {s for s in every if statement[1] in sketch.sure[s]}
        perhaps = surely | {s for s in every if statement[1] in sketch.possible[s]}
        if word == "has":
            return surely if sure else perhaps
        return every - perhaps if sure else every - surely
    if word == "var":
        return known[statement[1]]
    if word in ("and", "or"):
        left, right = [sketch_meaning(sketch, part, sure, known) for part in statement[1:]]
        return left & right if word == "and" else left | right
    if word in ("some", "all"):
        inner = sketch_meaning(sketch, statement[2], sure, known)
        steps = sketch.sure_steps
        if (word == "some") != sure:
            steps += sketch.possible_steps
        ends = {s: [e for b, a, e in steps if b == s and a == statement[1]] for s in every}
        asked = any if word == "some" else all
        return {s for s in every if asked(end in inner for end in ends[s])}
    reached = set() if word == "least" else every
    while True:
        following = sketch_meaning(sketch, statement[2], sure, {**known, statement[1]: reached})
        if following == reached:
            return reached
        reached = following


def plain_refines(world, sketch):
    """The pairs that point 39 tells of."""
    pairs = {
        (s, t) for s, row in enumerate(world.states) for t in range(len(sketch.sure))
        if set(sketch.sure[t]) <= set(row) <= set(sketch.sure[t]) | set(sketch.possible[t])}
    both = sketch.sure_steps + sketch.possible_steps
    while True:
        left = {
            (s, t) for s, t in pairs
            if all(any(b == t and a == label and (end, e) in pairs for b, a, e in both)
                   for start, label, end in world.steps if start == s)
            and all(any(b == s and a == label and (e, end) in pairs for b, a, e in world.steps)
                    for start, label, end in sketch.sure_steps if start == t)}
        if left == pairs:
            return sorted(pairs)
        pairs = left


def random_sketch(rng, states, labels=1, facts=1, chance=0.3):
    """A sketch with so many states."""
    rows = [{p: rng.choice(("sure", "possible", "no")) for p in range(facts)} for _ in range(states)]
    steps = {"sure": [], "possible": []}
    for step in itertools.product(range(states), range(labels), range(states)):
        if rng.random() < 2 * chance:
            steps[rng.choice(("sure", "possible"))].append(step)
    rng.shuffle(steps["sure"])
    rng.shuffle(steps["possible"])
    return Sketch(
        labels, facts, [[p for p in row if row[p] == "sure"] for row in rows],
        [[p for p in row if row[p] == "possible"] for row in rows], steps["sure"], steps["possible"])


def completions(sketch):
    """All worlds with the same states that the sketch may become."""
    open_facts = [(s, p) for s, row in enumerate(sketch.possible) for p in row]
    for taken in itertools.product((False, True), repeat=len(open_facts)):
        chosen = [fact for fact, take in zip(open_facts, taken) if take]
        states = [sorted(row + tuple(p for at, p in chosen if at == s)) for s, row in enumerate(sketch.sure)]
        for many in range(len(sketch.possible_steps) + 1):
            for more in itertools.combinations(sketch.possible_steps, many):
                yield World(sketch.labels, sketch.facts, states, sketch.sure_steps + more)


def small_sketches():
    """All sketches of one state, and many of two, with one label and one fact."""
    rows = [((), ()), ((0,), ()), ((), (0,))]
    for many in (1, 2):
        steps = list(itertools.product(range(many), (0,), range(many)))
        for states in itertools.product(rows, repeat=many):
            for signs in itertools.product((0, 1, 2), repeat=len(steps)):
                yield Sketch(1, 1, [row for row, _ in states], [more for _, more in states],
                             [step for step, sign in zip(steps, signs) if sign == 1],
                             [step for step, sign in zip(steps, signs) if sign == 2])


class Sketches(unittest.TestCase):
    def refuse(self, *parts):
        self.assertRaises(InvalidWorld, Sketch, *parts)

    def test_attributes(self):
        sure, possible = [[0], [0, 2], []], [[1, 2], [], [3]]
        sure_steps, possible_steps = [(2, 1, 0), (0, 0, 1)], [(1, 0, 1), (0, 1, 1), (0, 0, 0)]
        sketch = Sketch(2, 4, sure, possible, sure_steps, possible_steps)
        sure[0].append(3)
        possible[1].append(1)
        sure_steps.append((1, 1, 1))
        possible_steps.pop()
        self.assertEqual((sketch.labels, sketch.facts), (2, 4))
        self.assertEqual(sketch.sure, ((0,), (0, 2), ()))
        self.assertEqual(sketch.possible, ((1, 2), (), (3,)))
        self.assertEqual(sketch.sure_steps, ((0, 0, 1), (2, 1, 0)))
        self.assertEqual(sketch.possible_steps, ((0, 0, 0), (0, 1, 1), (1, 0, 1)))

    def test_limits(self):
        sketch = Sketch(3, 6, [[0, 1, 2, 3, 4, 5]] * 400, [[]] * 400, [(399, 2, 0)], [(0, 2, 399)])
        self.assertEqual(len(sketch.sure), 400)
        self.assertEqual(Sketch(1, 0, [[]], [[]], [], []).possible, ((),))

    def test_numbers_of_states(self):
        self.refuse(1, 1, [], [], [], [])
        self.refuse(1, 1, [[]] * 401, [[]] * 401, [], [])
        for sure, possible in (([[]], []), ([], [[]]), ([[]], [[], []]), ([[], []], [[]])):
            self.refuse(1, 1, sure, possible, [], [])

    def test_numbers_of_labels_and_facts(self):
        for labels in (0, 4, -1):
            self.refuse(labels, 1, [[]], [[]], [], [])
        for facts in (-1, 7):
            self.refuse(1, facts, [[]], [[]], [], [])

    def test_facts(self):
        for row in ([1], [-1], [0, 0], [0, 1], [True], ["0"]):
            self.refuse(1, 1, [row], [[]], [], [])
            self.refuse(1, 1, [[]], [row], [], [])
        self.refuse(1, 3, [[2, 1]], [[]], [], [])
        self.refuse(1, 3, [[]], [[2, 1]], [], [])

    def test_fact_that_is_both(self):
        self.refuse(1, 1, [[0]], [[0]], [], [])
        self.refuse(1, 3, [[], [0, 2]], [[0], [1, 2]], [], [])
        self.assertEqual(Sketch(1, 1, [[0], []], [[], [0]], [], []).possible, ((), (0,)))

    def test_steps(self):
        for step in ((0, 1, 0), (0, -1, 0), (2, 0, 0), (0, 0, 2), (-1, 0, 0), (0, 0), (0, 0, 0, 0)):
            self.refuse(1, 1, [[], []], [[], []], [step], [])
            self.refuse(1, 1, [[], []], [[], []], [], [step])
        self.refuse(1, 1, [[]], [[]], [(0, 0, 0), (0, 0, 0)], [])
        self.refuse(1, 1, [[]], [[]], [], [(0, 0, 0), (0, 0, 0)])

    def test_step_that_is_both(self):
        self.refuse(1, 1, [[]], [[]], [(0, 0, 0)], [(0, 0, 0)])
        self.refuse(2, 1, [[], []], [[], []], [(0, 0, 1), (1, 1, 0)], [(1, 0, 0), (0, 0, 1)])
        self.assertEqual(Sketch(2, 1, [[]], [[]], [(0, 0, 0)], [(0, 1, 0)]).sure_steps, ((0, 0, 0),))


class Truth(unittest.TestCase):
    def check(self, sketch, statement):
        surely, possibly = surely_true(sketch, statement), possibly_true(sketch, statement)
        self.assertEqual(surely, sorted(sketch_meaning(sketch, statement, True, {})))
        self.assertEqual(possibly, sorted(sketch_meaning(sketch, statement, False, {})))
        self.assertLessEqual(set(surely), set(possibly))
        others = [state for state in range(len(sketch.sure)) if state not in possibly]
        self.assertEqual(surely_true(sketch, opposite(statement)), others)
        return surely, possibly

    def test_example(self):
        sketch = Sketch(1, 1, [[], [0]], [[0], []], [], [(0, 0, 1)])
        self.assertEqual(self.check(sketch, ("has", 0)), ([1], [0, 1]))
        self.assertEqual(surely_true(sketch, ("all", 0, ("has", 0))), [0, 1])

    def test_facts(self):
        sketch = Sketch(1, 2, [[0], [], []], [[1], [0], []], [], [])
        self.assertEqual(self.check(sketch, ("has", 0)), ([0], [0, 1]))
        self.assertEqual(self.check(sketch, ("lacks", 0)), ([2], [1, 2]))
        self.assertEqual(self.check(sketch, ("has", 1)), ([], [0]))
        self.assertEqual(self.check(sketch, ("lacks", 1)), ([1, 2], [0, 1, 2]))
        # Each of both for itself: nobody looks at a fact and its opposite together.
        self.assertEqual(self.check(sketch, parse_statement("p0 | !p0")), ([0, 2], [0, 1, 2]))
        self.assertEqual(self.check(sketch, parse_statement("p0 & !p0")), ([], [1]))

    def test_facts_and_labels_that_are_not_there(self):
        sketch = Sketch(1, 0, [[], []], [[], []], [(0, 0, 1)], [(1, 0, 0)])
        for text, expected in (("p5", []), ("!p5", [0, 1]), ("p0", []), ("<1> true", []), ("[2] false", [0, 1])):
            self.assertEqual(self.check(sketch, parse_statement(text)), (expected, expected))

    def test_all_with_a_possible_step_only(self):
        sketch = Sketch(1, 1, [[], [], [0]], [[], [], []], [], [(0, 0, 1), (1, 0, 2)])
        self.assertEqual(self.check(sketch, parse_statement("[0] p0")), ([1, 2], [0, 1, 2]))
        self.assertEqual(self.check(sketch, parse_statement("<0> p0")), ([], [1]))
        self.assertEqual(self.check(sketch, parse_statement("<0> true")), ([], [0, 1]))
        self.assertEqual(self.check(sketch, parse_statement("[0] false")), ([2], [0, 1, 2]))

    def test_fixed_points(self):
        sketch = Sketch(1, 1, [[], [], [0]], [[], [0], []], [(0, 0, 1), (1, 0, 0)], [(1, 0, 2)])
        self.assertEqual(self.check(sketch, parse_statement("mu x0. p0 | <0> x0")), ([2], [0, 1, 2]))
        self.assertEqual(self.check(sketch, parse_statement("nu x0. !p0 & [0] x0")), ([], [0, 1]))
        self.assertEqual(self.check(sketch, parse_statement("nu x0. <0> x0")), ([0, 1], [0, 1]))

    def test_nothing_possible(self):
        rng = generator(331)
        for _ in range(200):
            labels, facts, states, steps = random_world(rng, rng.randint(1, 4))
            sketch = Sketch(labels, facts, states, [[]] * len(states), steps, [])
            statement = random_statement(rng, rng.randint(1, 14))
            true_at = truth(World(labels, facts, states, steps), statement)
            self.assertEqual(self.check(sketch, statement), (true_at, true_at))

    def test_nothing_sure(self):
        rng = generator(332)
        for _ in range(200):
            labels, facts, states, steps = random_world(rng, rng.randint(1, 4))
            sketch = Sketch(labels, facts, [[]] * len(states), states, [], steps)
            self.check(sketch, random_statement(rng, rng.randint(1, 14)))

    def test_all_worlds_that_small_sketches_may_become(self):
        statements = [parse_statement(text) for text in TEXTS]
        for sketch in small_sketches():
            worlds = list(completions(sketch))
            for statement in statements:
                surely, possibly = surely_true(sketch, statement), possibly_true(sketch, statement)
                for world in worlds:
                    true_at = set(truth(world, statement))
                    self.assertLessEqual(set(surely), true_at)
                    self.assertLessEqual(true_at, set(possibly))

    def test_small_sketches(self):
        statements = [parse_statement(text) for text in TEXTS]
        for sketch in small_sketches():
            for statement in statements:
                self.check(sketch, statement)

    def test_random(self):
        rng = generator(333)
        for _ in range(600):
            sketch = random_sketch(rng, rng.randint(1, 5), 2, 2, rng.choice((0.1, 0.2, 0.4)))
            self.check(sketch, random_statement(rng, rng.randint(1, 16), labels=3, facts=3))

    def test_free_variables(self):
        sketch = Sketch(1, 0, [[]], [[]], [], [])
        for statement in (("var", 0), ("most", 1, ("and", ("true",), ("var", 0)))):
            self.assertRaises(NotClosed, surely_true, sketch, statement)
            self.assertRaises(NotClosed, possibly_true, sketch, statement)


class Refining(unittest.TestCase):
    def check(self, world, sketch):
        found = refines(world, sketch)
        self.assertEqual(found, plain_refines(world, sketch))
        return found

    def test_facts(self):
        sketch = Sketch(1, 2, [[0], [], []], [[1], [0], []], [], [])
        world = World(1, 2, [[], [0], [1], [0, 1]], [])
        self.assertEqual(self.check(world, sketch), [(0, 1), (0, 2), (1, 0), (1, 1), (3, 0)])

    def test_world_with_more_facts_and_labels(self):
        sketch = Sketch(1, 1, [[0]], [[]], [(0, 0, 0)], [])
        world = World(2, 3, [[0], [0, 2], [0], [0]], [(0, 0, 0), (1, 0, 0), (2, 0, 1), (3, 0, 0), (3, 1, 0)])
        self.assertEqual(self.check(world, sketch), [(0, 0)])
        larger = Sketch(3, 6, [[]], [[5]], [], [(0, 0, 0)])
        self.assertEqual(self.check(World(1, 0, [[]], [(0, 0, 0)]), larger), [(0, 0)])

    def test_steps(self):
        sketch = Sketch(1, 0, [[], [], []], [[], [], []], [(0, 0, 2)], [(1, 0, 2)])
        world = World(1, 0, [[], []], [(0, 0, 1)])
        # A sure step must be there, a possible one may be; where there is none there must be none.
        self.assertEqual(self.check(world, sketch), [(0, 0), (0, 1), (1, 1), (1, 2)])

    def test_sure_steps_and_possible_ones_with_different_ends(self):
        sketch = Sketch(1, 1, [[], [0], []], [[], [], []], [(0, 0, 1)], [(0, 0, 2)])
        world = World(1, 1, [[], [0], [], [], []], [(0, 0, 1), (2, 0, 4), (3, 0, 1), (3, 0, 4)])
        self.assertEqual(self.check(world, sketch), [(0, 0), (1, 1), (3, 0), (4, 2)])

    def test_long_rows(self):
        # What is missing at the end of a row of states is told only by all of the row.
        many = 30
        row = [(at, 0, at + 1) for at in range(many - 1)]
        sketch = Sketch(1, 1, [[]] * (many - 1) + [[0]], [[]] * many, row, [])
        self.assertEqual(self.check(World(1, 1, [[]] * (many - 1) + [[0]], row), sketch),
                         [(at, at) for at in range(many)])
        self.assertEqual(self.check(World(1, 1, [[]] * many, row), sketch), [])
        ring = World(1, 1, [[]], [(0, 0, 0)])
        self.assertEqual(self.check(ring, sketch), [])
        free = Sketch(1, 1, [[]] * many, [[]] * many, [], row)
        self.assertEqual(self.check(World(1, 1, [[]] * many, row), free),
                         [(at, to) for at in range(many) for to in range(at + 1)])

    def test_nothing_possible(self):
        rng = generator(334)
        for _ in range(100):
            labels, facts, states, steps = random_world(rng, rng.randint(1, 4), facts=1)
            world = World(labels, facts, states, steps)
            found = self.check(world, Sketch(labels, facts, states, [[]] * len(states), steps, []))
            self.assertLessEqual({(state, state) for state in range(len(states))}, set(found))

    def test_all_that_a_sketch_may_become_refines_it(self):
        for sketch in small_sketches():
            for world in completions(sketch):
                self.assertLessEqual({(s, s) for s in range(len(sketch.sure))}, set(refines(world, sketch)))

    def test_what_is_sure_and_what_may_be(self):
        rng = generator(335)
        met = 0
        for _ in range(400):
            sketch = random_sketch(rng, rng.randint(1, 3), chance=0.4)
            world = World(*random_world(rng, rng.randint(1, 4), labels=1, facts=1))
            pairs = self.check(world, sketch)
            for _ in range(6):
                statement = random_statement(rng, rng.randint(1, 12), labels=1, facts=1)
                true_at = truth(world, statement)
                surely, possibly = surely_true(sketch, statement), possibly_true(sketch, statement)
                for s, t in pairs:
                    met += 1
                    self.assertTrue(t not in surely or s in true_at)
                    self.assertTrue(s not in true_at or t in possibly)
        self.assertGreater(met, 1000)

    def test_random(self):
        rng = generator(336)
        for _ in range(500):
            sketch = random_sketch(rng, rng.randint(1, 5), 2, rng.choice((0, 1, 2)), rng.choice((0.1, 0.2, 0.4)))
            chance = rng.choice((0.1, 0.2, 0.4))
            self.check(World(*random_world(rng, rng.randint(1, 5), facts=sketch.facts, chance=chance)), sketch)

    def test_large(self):
        many = 400
        steps = [(at, label, (at * 3 + shift) % many) for at in range(many) for label, shift in ((0, 1), (1, 2))]
        states = [[at % 2] for at in range(many)]
        world = World(2, 2, states, steps)
        pairs = refines(world, Sketch(2, 2, [[]] * many, [[0, 1]] * many, [], steps))
        self.assertLessEqual({(at, at) for at in range(many)}, set(pairs))
        pairs = refines(world, Sketch(2, 2, states, [[]] * many, steps, []))
        self.assertLessEqual({(at, at) for at in range(many)}, set(pairs))
