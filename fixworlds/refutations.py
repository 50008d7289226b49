"""Refutations built from a game about whether a statement is true anywhere."""

from fixworlds.errors import TooLarge
from fixworlds.searches import reached_places

MOST_NODES = 4000


def refutation_of(arena, chosen):
    """The refutation by a game that player 1 wins; chosen has the moves to choose."""
    keys = {}
    following = {}
    for at in reached_places(arena, chosen):
        place = arena.places[at]
        moves = [chosen[at]] if at in chosen else place.moves
        part = moves[0][0] if moves else None
        keys[at] = (place.claim, place.kind, part)
        following[at] = [end for _, _, end in moves]
    numbers = merged(keys, following)
    nodes = {}
    statements = arena.closure.statements
    for at, (claim, kind, part) in keys.items():
        nodes[numbers[at]] = (
            tuple([statements[each] for each in claim]),
            kind,
            None if part is None else statements[part],
            tuple([numbers[end] for end in following[at]]),
        )
    if len(nodes) > MOST_NODES:
        raise TooLarge("the refutation has more than 4000 nodes")
    return tuple([nodes[number] for number in range(len(nodes))])


def merged(keys, following):
    """A number for each node; those of one number have the same key and are followed alike.

    So the rows of keys stay the same. Numbers are given in the order of the nodes.
    """
    numbers = {node: 0 for node in keys}
    many = 0
    while True:
        groups = {}
        for node, key in keys.items():
            ends = tuple([numbers[end] for end in following[node]])
            groups.setdefault((key, ends), []).append(node)
        if len(groups) == many:
            return numbers
        many = len(groups)
        numbers = {node: number for number, group in enumerate(groups.values()) for node in group}
