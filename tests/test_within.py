"""What the modules of the interface stand on."""

import unittest

from fixworlds.components import components, has_loop
from fixworlds.masks import mask_of, states_in
from fixworlds.nets import Net, ranks_of
from fixworlds.parts import built, nearest_around, parts_of
from tests.reference import generator, random_statement, size


def reach(start, ways):
    """All nodes that can be reached from one, itself included."""
    found, waiting = {start}, [start]
    while waiting:
        for end in ways[waiting.pop()]:
            if end in ways and end not in found:
                found.add(end)
                waiting.append(end)
    return found


class Components(unittest.TestCase):
    def test_random(self):
        rng = generator(40)
        for _ in range(500):
            nodes = list(range(rng.randint(1, 9)))
            ways = {node: [rng.choice(nodes + [99]) for _ in range(rng.randint(0, 3))]
                    for node in nodes}
            found = components(ways)
            self.assertEqual(sorted(node for members in found for node in members), nodes)
            place = {node: at for at, members in enumerate(found) for node in members}
            for node in nodes:
                for other in nodes:
                    together = other in reach(node, ways) and node in reach(other, ways)
                    self.assertEqual(place[node] == place[other], together)
                for end in ways[node]:
                    if end in ways:
                        self.assertLessEqual(place[end], place[node])

    def test_loops(self):
        ways = {0: [1], 1: [0], 2: [2], 3: [2, 99]}
        self.assertEqual(
            {tuple(sorted(members)): has_loop(members, ways) for members in components(ways)},
            {(0, 1): True, (2,): True, (3,): False})

    def test_long_row(self):
        ways = {node: [node + 1] for node in range(5000)}
        self.assertEqual(components(ways)[0], [4999])


class Parts(unittest.TestCase):
    def test_parts_in_the_order_in_which_they_are_written(self):
        statement = ("and", ("some", 1, ("has", 0)), ("least", 4, ("var", 4)))
        parts = parts_of(statement)
        self.assertEqual([part.head for part in parts], [
            ("and",), ("some", 1), ("has", 0), ("least", 4), ("var", 4)])
        self.assertEqual([part.around for part in parts], [-1, 0, 1, 0, 3])
        self.assertEqual([part.inner for part in parts], [[1, 3], [2], [], [4], []])
        self.assertEqual(nearest_around(parts, ("and",)), [-1, 0, 0, 0, 0])
        self.assertEqual(nearest_around(parts, ("some", "least")), [-1, -1, 1, -1, 3])
        self.assertEqual(built(parts, [part.head for part in parts]), statement)

    def test_random(self):
        rng = generator(41)
        for _ in range(100):
            statement = random_statement(rng, rng.randint(1, 40), free=(9,))
            parts = parts_of(statement)
            self.assertEqual(len(parts), size(statement))
            self.assertEqual(built(parts, [part.head for part in parts]), statement)


class Nets(unittest.TestCase):
    def test_equal_parts_are_one_node(self):
        loop = ("least", 0, ("some", 0, ("var", 0)))
        net = Net()
        top = net.node(("and", loop, ("or", loop, ("has", 1))), {})
        self.assertEqual(net.heads[top], ("and",))
        self.assertEqual(sorted(head[0] for head in net.heads), ["and", "has", "least", "or", "some"])

    def test_equal_parts_of_different_binders_are_not_one_node(self):
        net = Net()
        net.node(("and", ("least", 0, ("some", 0, ("var", 0))),
                  ("most", 0, ("some", 0, ("var", 0)))), {})
        self.assertEqual([head[0] for head in net.heads].count("some"), 2)

    def test_ranks_count_changes_along_loops_only(self):
        inner = ("most", 1, ("or", ("some", 0, ("var", 0)), ("all", 0, ("var", 1))))
        net = Net()
        net.node(("and", ("least", 0, inner), ("least", 5, ("some", 0, ("least", 6, ("var", 6))))), {})
        told = {net.heads[node]: rank for node, rank in ranks_of(net).items()}
        self.assertEqual(told, {("least", 0): 1, ("most", 1): 0, ("least", 6): 1})


class Masks(unittest.TestCase):
    def test_states(self):
        for states in ([], [0], [3, 64, 399]):
            self.assertEqual(states_in(mask_of(states)), states)
