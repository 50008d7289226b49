"""Point 19: debates."""

import unittest

from fixworlds.debates import Debate, where_true
from fixworlds.errors import NotClosed, TooLarge
from fixworlds.stages import truth
from fixworlds.statements import closure, unfolded
from fixworlds.texts import parse_statement
from fixworlds.worlds import World, followers
from tests.reference import generator, random_statement, random_world


def choices(world, state, part):
    """What the player who has to choose at a pair can choose, with the pairs to which it leads."""
    if part[0] in ("and", "or"):
        return {0: (state, part[1]), 1: (state, part[2])}
    return {end: (end, part[2]) for end in followers(world, state, part[1])}


def chooser(part):
    """The player who chooses at a statement, or None."""
    return {"or": 0, "some": 0, "and": 1, "all": 1}.get(part[0])


def lost_at_once(world, state, part):
    """The player who loses at a pair at which nothing follows."""
    if part[0] in ("true", "false"):
        return 1 if part[0] == "true" else 0
    if part[0] in ("has", "lacks"):
        return 1 if (part[1] in world.states[state]) == (part[0] == "has") else 0
    return chooser(part)


def reached(start, ways):
    """All that can be reached from one pair by one step or more."""
    found, waiting = set(), [start]
    while waiting:
        for end in ways.get(waiting.pop(), ()):
            if end not in found:
                found.add(end)
                waiting.append(end)
    return found


class Debates(unittest.TestCase):
    def played(self, debate, world, statement, player):
        """All plays in which a player replies, and the other one does anything."""
        ways = {}
        waiting = [(state, part) for part in closure(statement) for state in range(len(world.states))
                   if debate.winner(state, part) == player]
        while waiting:
            pair = state, part = waiting.pop()
            if pair in ways:
                continue
            if part[0] in ("least", "most"):
                ends = [(state, unfolded(part))]
            elif chooser(part) is None:
                ends = []
            elif chooser(part) == player:
                reply = debate.reply(state, part)
                self.assertIs(type(reply), int)
                ends = [choices(world, state, part)[reply]]
            else:
                ends = list(choices(world, state, part).values())
            if not ends:
                self.assertEqual(lost_at_once(world, state, part), 1 - player)
            for end in ends:
                self.assertEqual(debate.winner(*end), player)
            ways[pair] = ends
            waiting.extend(ends)
        return ways

    def check(self, world, statement):
        debate = Debate(world, statement)
        expected = truth(world, statement)
        self.assertEqual(where_true(world, statement), expected)
        for state in range(len(world.states)):
            self.assertIs(debate.is_true(state), state in expected)
        for part in closure(statement):
            true_at = truth(world, part)
            for state in range(len(world.states)):
                self.assertEqual(debate.winner(state, part), 0 if state in true_at else 1)
        for player, losing in ((0, "least"), (1, "most")):
            ways = self.played(debate, world, statement, player)
            # No play may go round through a binder of the other player and none of lesser variables.
            for variable in {part[1] for _, part in ways if part[0] == losing}:
                left = {pair: [end for end in ends if end[1][0] not in ("least", "most") or end[1][1] >= variable]
                        for pair, ends in ways.items()
                        if pair[1][0] not in ("least", "most") or pair[1][1] >= variable}
                for pair in left:
                    if pair[1][0] == losing and pair[1][1] == variable:
                        self.assertNotIn(pair, reached(pair, left))

    def test_each_word(self):
        world = World(2, 2, [[0], [1], [0, 1], []], [(0, 0, 1), (0, 0, 2), (1, 1, 1), (2, 0, 3)])
        for text in ("true", "false", "p0", "!p0", "p5", "!p5", "p0 & p1", "p0 | p1", "<0> p1", "[0] p1",
                     "<1> p1", "[1] false", "<2> true", "[2] false", "mu x0. x0", "nu x0. x0", "mu x3. p0"):
            with self.subTest(text):
                self.check(world, parse_statement(text))

    def test_binders_of_each_kind_within_the_other(self):
        world = World(1, 1, [[0], [], [], []], [(0, 0, 1), (1, 0, 0), (2, 0, 2), (2, 0, 0), (3, 0, 3)])
        for text in ("nu x0. mu x1. <0> (p0 & x0 | x1)", "nu x0. mu x1. [0] (p0 & x0 | x1)",
                     "mu x0. nu x1. <0> (p0 & x0 | !p0 & x1)", "mu x0. nu x1. [0] (p0 & x0 | !p0 & x1)",
                     "nu x0. (mu x0. p0 | <0> x0) & [0] x0"):
            with self.subTest(text):
                self.check(world, parse_statement(text))

    def test_replies(self):
        world = World(1, 1, [[], [0], []], [(0, 0, 1), (0, 0, 2)])
        some, both = parse_statement("<0> p0"), parse_statement("p0 & !p0")
        self.assertEqual(Debate(world, some).reply(0, some), 1)
        self.assertEqual(Debate(world, ("all", 0, ("has", 0))).reply(0, ("all", 0, ("has", 0))), 2)
        self.assertEqual([Debate(world, both).reply(state, both) for state in (0, 1)], [0, 1])
        self.assertEqual(Debate(world, ("or", ("has", 0), ("lacks", 0))).reply(0, ("or", ("has", 0), ("lacks", 0))), 1)

    def test_equal_parts(self):
        self.check(World(1, 1, [[], [0]], []), ("or", ("and", ("has", 0), ("has", 0)), ("and", ("has", 0), ("has", 0))))

    def test_random(self):
        rng = generator(70)
        for _ in range(300):
            statement = random_statement(rng, rng.randint(1, 18))
            world = World(*random_world(rng, rng.randint(1, 4), chance=rng.choice((0.1, 0.3, 0.6))))
            self.check(world, statement)

    def test_statement_with_more_parts_unfolded_than_can_be_compared(self):
        scope = ("var", 0)
        for variable in range(1, 26):
            scope = ("and", scope, ("var", variable))
        statement = ("some", 0, scope)
        for variable in reversed(range(26)):
            statement = (("least", "most")[variable & 1], variable, statement)
        world = World(1, 0, [[], []], [(0, 0, 0), (0, 0, 1)])
        debate = Debate(world, statement)
        for part in closure(statement):
            self.assertEqual([debate.winner(state, part) for state in (0, 1)], [1, 1])

    def test_four_thousand_positions(self):
        statement = parse_statement("mu x0. p0 | (p1 | (p2 | (p3 | <0> x0)))")
        self.assertEqual(len(closure(statement)), 10)
        world = World(1, 1, [[0]] + [[]] * 399, [(at, 0, at - 1) for at in range(1, 400)])
        self.assertEqual(where_true(world, statement), list(range(400)))
        self.assertIs(Debate(world, statement).is_true(399), True)
        longer = parse_statement("mu x0. p0 | (p1 | (p2 | (p3 | <0> x0))) | p4")
        self.assertGreater(len(closure(longer)), 10)
        self.assertRaises(TooLarge, Debate, world, longer)
        self.assertRaises(TooLarge, where_true, world, longer)

    def test_not_closed(self):
        world = World(1, 0, [[]] * 400, [])
        statement = ("var", 3)
        for _ in range(15):
            statement = ("some", 0, ("all", 0, statement))
        for function in (Debate, where_true):
            self.assertRaises(NotClosed, function, world, ("or", ("true",), ("var", 1)))
            self.assertRaises(NotClosed, function, world, statement)

    def test_is_a_new_list(self):
        world = World(1, 1, [[0]], [])
        where_true(world, ("has", 0)).append(9)
        self.assertEqual(where_true(world, ("has", 0)), [0])
