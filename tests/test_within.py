"""What the modules of the interface stand on."""

import unittest

from fixworlds.closures import Closure
from fixworlds.components import components, has_loop
from fixworlds.contests import Contest
from fixworlds.finders import Finder
from fixworlds.games import Game, is_winning, winners_by_measures
from fixworlds.joins import all_of, any_of
from fixworlds.masks import led, mask_of, states_in, step_masks
from fixworlds.nets import Net, ranks_of
from fixworlds.parts import built, nearest_around, parts_of
from fixworlds.rounds import Rounds
from fixworlds.statements import closure, tidy, unfolded
from fixworlds.threads import Threads
from tests.reference import generator, random_statement, size
from tests.test_games import random_game


def reach(start, ways):
    """All nodes that can be reached from one, itself included."""
    found, waiting = {start}, [start]
    while waiting:
        for end in ways[waiting.pop()]:
            if end in ways and end not in found:
                found.add(end)
                waiting.append(end)
    return found


class Components(unittest.TestCase):
    def test_random(self):
        rng = generator(40)
        for _ in range(500):
            nodes = list(range(rng.randint(1, 9)))
            ways = {node: [rng.choice(nodes + [99]) for _ in range(rng.randint(0, 3))]
                    for node in nodes}
            found = components(ways)
            self.assertEqual(sorted(node for members in found for node in members), nodes)
            place = {node: at for at, members in enumerate(found) for node in members}
            for node in nodes:
                for other in nodes:
                    together = other in reach(node, ways) and node in reach(other, ways)
                    self.assertEqual(place[node] == place[other], together)
                for end in ways[node]:
                    if end in ways:
                        self.assertLessEqual(place[end], place[node])

    def test_loops(self):
        ways = {0: [1], 1: [0], 2: [2], 3: [2, 99]}
        self.assertEqual(
            {tuple(sorted(members)): has_loop(members, ways) for members in components(ways)},
            {(0, 1): True, (2,): True, (3,): False})

    def test_long_row(self):
        ways = {node: [node + 1] for node in range(5000)}
        self.assertEqual(components(ways)[0], [4999])


class Parts(unittest.TestCase):
    def test_parts_in_the_order_in_which_they_are_written(self):
        statement = ("and", ("some", 1, ("has", 0)), ("least", 4, ("var", 4)))
        parts = parts_of(statement)
        self.assertEqual([part.head for part in parts], [
            ("and",), ("some", 1), ("has", 0), ("least", 4), ("var", 4)])
        self.assertEqual([part.around for part in parts], [-1, 0, 1, 0, 3])
        self.assertEqual([part.inner for part in parts], [[1, 3], [2], [], [4], []])
        self.assertEqual(nearest_around(parts, ("and",)), [-1, 0, 0, 0, 0])
        self.assertEqual(nearest_around(parts, ("some", "least")), [-1, -1, 1, -1, 3])
        self.assertEqual(built(parts, [part.head for part in parts]), statement)

    def test_random(self):
        rng = generator(41)
        for _ in range(100):
            statement = random_statement(rng, rng.randint(1, 40), free=(9,))
            parts = parts_of(statement)
            self.assertEqual(len(parts), size(statement))
            self.assertEqual(built(parts, [part.head for part in parts]), statement)


class Nets(unittest.TestCase):
    def test_equal_parts_are_one_node(self):
        loop = ("least", 0, ("some", 0, ("var", 0)))
        net = Net()
        top = net.node(("and", loop, ("or", loop, ("has", 1))), {})
        self.assertEqual(net.heads[top], ("and",))
        self.assertEqual(sorted(head[0] for head in net.heads), ["and", "has", "least", "or", "some"])

    def test_equal_parts_of_different_binders_are_not_one_node(self):
        net = Net()
        net.node(("and", ("least", 0, ("some", 0, ("var", 0))),
                  ("most", 0, ("some", 0, ("var", 0)))), {})
        self.assertEqual([head[0] for head in net.heads].count("some"), 2)

    def test_ranks_count_changes_along_loops_only(self):
        inner = ("most", 1, ("or", ("some", 0, ("var", 0)), ("all", 0, ("var", 1))))
        net = Net()
        net.node(("and", ("least", 0, inner), ("least", 5, ("some", 0, ("least", 6, ("var", 6))))), {})
        told = {net.heads[node]: rank for node, rank in ranks_of(net.heads, net.inner, range(len(net.heads))).items()}
        self.assertEqual(told, {("least", 0): 1, ("most", 1): 0, ("least", 6): 1})


class Masks(unittest.TestCase):
    def test_states(self):
        for states in ([], [0], [3, 64, 399]):
            self.assertEqual(states_in(mask_of(states)), states)

    def test_steps(self):
        steps = [(0, 0, 1), (0, 0, 2), (1, 1, 0), (2, 0, 2)]
        behind, before = step_masks(3, steps, 0)
        self.assertEqual((behind, before), ([6, 0, 4], [0, 1, 5]))
        self.assertEqual([led(behind, mask) for mask in (0, 1, 2, 4, 7)], [0, 6, 0, 4, 6])


class Closures(unittest.TestCase):
    def test_random(self):
        rng = generator(42)
        for _ in range(200):
            statement = random_statement(rng, rng.randint(1, 20))
            told = Closure(statement)
            self.assertEqual(told.statements, sorted(closure(statement)))
            self.assertEqual(told.statements[told.top], tidy(statement))
            finder = Finder(closure(statement))
            for at, part in enumerate(closure(statement)):
                self.assertEqual(finder.place(part), at)
            for part, head, inner in zip(told.statements, told.heads, told.inner):
                self.assertEqual(part[:len(head)], head)
                if part[0] in ("least", "most"):
                    self.assertEqual([told.statements[at] for at in inner], [unfolded(part)])
                else:
                    self.assertEqual([told.statements[at] for at in inner],
                                     [each for each in part[1:] if isinstance(each, tuple)])

    def test_ranks(self):
        told = Closure(("most", 0, ("least", 1, ("least", 2, ("some", 0, (
            "or", ("var", 0), ("or", ("var", 1), ("or", ("var", 2), ("least", 3, ("true",))))))))))
        self.assertEqual(sorted((told.heads[at], rank) for at, rank in told.ranks.items()),
                         [(("least", 1), 1), (("least", 2), 1), (("most", 0), 2)])


class Joins(unittest.TestCase):
    def test_few_around_each(self):
        facts = [("has", at % 6) for at in range(100)]
        for joined, word in ((all_of(facts), "and"), (any_of(facts), "or")):
            parts = parts_of(joined)
            self.assertEqual([part.head for part in parts if part.head != (word,)], facts)
            depth = [0] * len(parts)
            for at, part in enumerate(parts[1:], 1):
                depth[at] = depth[part.around] + 1
            self.assertEqual(max(depth), 7)

    def test_none_and_one(self):
        self.assertEqual((all_of([]), any_of([])), (("true",), ("false",)))
        self.assertEqual((all_of([("has", 1)]), any_of([("has", 1)])), (("has", 1), ("has", 1)))


class Alike(unittest.TestCase):
    def test_rounds(self):
        rounds = Rounds(((), (), (), (0,), ()), [(0, 0, 1), (1, 0, 2), (2, 0, 3)])
        found = [rounds.numbers()]
        while rounds.advance():
            found.append(rounds.numbers())
        self.assertEqual(found, [(0, 0, 0, 1, 0), (0, 0, 1, 2, 3), (0, 1, 2, 3, 4)])


class Contests(unittest.TestCase):
    def test_random(self):
        rng = generator(43)
        for _ in range(500):
            lists = random_game(rng, rng.randint(1, 25), rng.randint(0, 8), 4)
            game, contest = Game(*lists), Contest(*lists)
            self.assertEqual(tuple(contest.winners), winners_by_measures(game))
            for player in (0, 1):
                won = [at for at, winner in enumerate(contest.winners) if winner == player]
                self.assertTrue(is_winning(game, player, won, contest.chosen))

    def test_winner_who_has_no_move(self):
        contest = Contest([0, 1, 0], [0, 0, 0], [[], [0, 2], [2]])
        self.assertEqual((contest.winners, contest.chosen[1]), ([1, 1, 0], 0))


class FollowedThreads(unittest.TestCase):
    def test_name_is_renewed_on_each_round(self):
        told = Closure(("least", 0, ("some", 0, ("var", 0))))
        inner = told.inner[told.top][0]
        threads = Threads(told)
        state, events = threads.first(), []
        for _ in range(4):
            for pair in ((told.top, inner), (inner, told.top)):
                event, state = threads.followed(state, [pair])
                events.append(event)
        self.assertEqual(events, [None, None, 1, None, 1, None, 1, None])
        self.assertEqual(state, (((told.top, (0,)),), (1,)))

    def test_greater_rank_ends_a_name(self):
        told = Closure(("most", 0, ("least", 1, ("some", 0, ("or", ("var", 0), ("var", 1))))))
        threads = Threads(told)
        state, events = threads.first(), []
        ring = [told.top]
        while ring[-1] != told.top or len(ring) == 1:
            ring.append(told.inner[ring[-1]][0])
        for _ in range(3):
            for pair in zip(ring, ring[1:]):
                event, state = threads.followed(state, [pair])
                events.append(event)
        self.assertEqual(set(events), {None, 0})
