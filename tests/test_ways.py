"""Point 24: ways."""

import unittest

from fixworlds.stages import truth
from fixworlds.ways import all_ways, some_way, way_pairs
from fixworlds.worlds import World
from tests.reference import free_in, generator, meaning, random_statement, random_world

STEP = ("step", 0)


def plain_pairs(states, steps, way):
    """The pairs that point 24 tells."""
    word = way[0]
    every = range(len(states))
    if word == "step":
        return {(s, t) for s, label, t in steps if label == way[1]}
    if word == "test":
        return {(s, s) for s in meaning(states, steps, way[1], {})}
    first = plain_pairs(states, steps, way[1])
    if word == "again":
        found = {(s, s) for s in every}
        while True:
            more = found | {(s, u) for s, t in found for other, u in first if t == other}
            if more == found:
                return found
            found = more
    second = plain_pairs(states, steps, way[2])
    if word == "either":
        return first | second
    return {(s, u) for s, t in first for other, u in second if t == other}


def random_way(rng, parts):
    """A way of about so many parts."""
    if parts <= 1:
        if rng.random() < 0.6:
            return ("step", rng.randrange(2))
        return ("test", random_statement(rng, rng.randint(1, 5)))
    if parts == 2 or rng.random() < 0.3:
        return ("again", random_way(rng, parts - 1))
    left = rng.randint(1, parts - 2)
    return (rng.choice(("then", "either")), random_way(rng, left), random_way(rng, parts - 1 - left))


class Ways(unittest.TestCase):
    def check(self, parts, way, statement):
        labels, facts, states, steps = parts
        world = World(labels, facts, states, steps)
        pairs = plain_pairs(states, steps, way)
        self.assertEqual(way_pairs(world, way), sorted(pairs))
        goal = meaning(states, steps, statement, {})
        for built, expected in (
                (some_way(way, statement), {s for s, t in pairs if t in goal}),
                (all_ways(way, statement), set(range(len(states))) - {s for s, t in pairs if t not in goal})):
            self.assertEqual(free_in(built), set())
            self.assertEqual(truth(world, built), sorted(expected))

    def test_example(self):
        world = World(1, 0, [[], [], []], [(0, 0, 1), (1, 0, 2)])
        self.assertEqual(
            way_pairs(world, ("again", STEP)), [(0, 0), (0, 1), (0, 2), (1, 1), (1, 2), (2, 2)])

    def test_each_word(self):
        parts = (2, 1, [[], [0], [0], []], [(0, 0, 1), (1, 0, 2), (0, 1, 3), (3, 1, 3)])
        for way in (STEP, ("step", 1), ("step", 2), ("test", ("has", 0)), ("test", ("false",)),
                    ("then", STEP, STEP), ("either", STEP, ("step", 1)), ("again", STEP)):
            with self.subTest(way):
                self.check(parts, way, ("has", 0))
                self.check(parts, way, ("lacks", 0))

    def test_stays_where_it_is(self):
        world = World(1, 1, [[0], []], [(0, 0, 1)])
        self.assertEqual(way_pairs(world, ("test", ("true",))), [(0, 0), (1, 1)])
        self.assertEqual(way_pairs(world, ("again", ("test", ("has", 0)))), [(0, 0), (1, 1)])
        self.assertEqual(way_pairs(world, ("test", ("has", 0))), [(0, 0)])

    def test_leads_nowhere(self):
        world = World(1, 0, [[], []], [(0, 0, 1)])
        for way in (("test", ("false",)), ("then", STEP, STEP), ("step", 2)):
            self.assertEqual(way_pairs(world, way), [])
            self.assertEqual(truth(world, some_way(way, ("true",))), [])
            self.assertEqual(truth(world, all_ways(way, ("false",))), [0, 1])

    def test_again_around_a_test_and_around_again(self):
        parts = (1, 1, [[0], [0], [], [0]], [(0, 0, 1), (1, 0, 2), (2, 0, 3), (3, 0, 3)])
        test = ("test", ("has", 0))
        for way in (("again", test), ("again", ("again", STEP)), ("again", ("again", test)),
                    ("again", ("either", test, STEP)), ("again", ("then", test, STEP)),
                    ("then", ("again", ("then", ("again", STEP), test)), ("again", STEP)),
                    ("again", ("then", ("again", test), ("again", ("then", STEP, test))))):
            with self.subTest(way):
                self.check(parts, way, ("has", 0))
                self.check(parts, way, ("lacks", 0))

    def test_binders_of_the_goal_stay_what_they_are(self):
        parts = (1, 1, [[0], [], []], [(0, 0, 1), (1, 0, 0), (2, 0, 2)])
        goal = ("most", 0, ("some", 0, ("least", 1, ("or", ("and", ("has", 0), ("var", 0)), ("some", 0, ("var", 1))))))
        way = ("again", ("then", ("test", goal), ("again", ("then", STEP, ("test", goal)))))
        self.check(parts, way, goal)

    def test_random(self):
        rng = generator(90)
        for _ in range(400):
            self.check(random_world(rng, rng.randint(1, 4)), random_way(rng, rng.randint(1, 10)),
                       random_statement(rng, rng.randint(1, 6)))

    def test_four_hundred_states(self):
        line = World(1, 0, [[]] * 400, [(at, 0, at + 1) for at in range(399)])
        self.assertEqual(way_pairs(line, ("again", STEP)), [(s, t) for s in range(400) for t in range(s, 400)])
