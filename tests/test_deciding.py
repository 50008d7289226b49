"""Points 25 and 26: deciding, and refutations."""

import itertools
import unittest

from fixworlds.arenas import Arena
from fixworlds.closures import Closure
from fixworlds.counters import Counters
from fixworlds.deciding import decide, follows, is_right, is_valid
from fixworlds.errors import NotClosed, NotGuarded, TooLarge
from fixworlds.models import model_of
from fixworlds.searches import search
from fixworlds.stages import truth
from fixworlds.statements import opposite, tidy, unfolded
from fixworlds.texts import parse_statement
from fixworlds.worlds import World
from tests.reference import generator, guarded_under, meaning, random_statement, size

TRUE, FALSE = ("true",), ("false",)


def small_worlds(labels, facts):
    """All worlds with one state, and with two if they are few."""
    for states in (1, 2):
        rows = list(itertools.product([[p for p in range(facts) if bits >> p & 1] for bits in range(1 << facts)],
                                      repeat=states))
        all_steps = list(itertools.product(range(states), range(labels), range(states)))
        if len(rows) << len(all_steps) <= 300:
            for row in rows:
                for bits in range(1 << len(all_steps)):
                    yield list(row), [step for at, step in enumerate(all_steps) if bits >> at & 1]


def greatest(statement, words):
    """The greatest number of a label or a fact, or -1."""
    inner = [greatest(part, words) for part in statement[1:] if isinstance(part, tuple)]
    return max(inner + ([statement[1]] if statement[0] in words else []), default=-1)


def replaced(claim, part, statements):
    return tuple(sorted((set(claim) - {part}) | set(statements)))


def following_claims(claim, kind, part):
    """The claims that must follow a node, or None."""
    if kind == "take" and part[0] in ("least", "most"):
        return [replaced(claim, part, [unfolded(part)])]
    if kind == "take" and part[0] in ("true", "and"):
        return [replaced(claim, part, part[1:])]
    if kind == "either" and part[0] == "or":
        return [replaced(claim, part, [part[1]]), replaced(claim, part, [part[2]])]
    if kind == "step" and part[0] == "some":
        return [tuple(sorted({part[2]} | {each[2] for each in claim if each[:2] == ("all", part[1])}))]
    return None


def clashes(claim):
    return FALSE in claim or any(each[0] == "has" and ("lacks", each[1]) in claim for each in claim)


def threads_on(node, side):
    """The ways of threads to a follower: (statement, next one, variable that is unfolded or None)."""
    claim, kind, part, _ = node
    if kind == "step":
        return {(part, part[2], None)} | {
            (each, each[2], None) for each in claim if each[:2] == ("all", part[1])}
    stay = {(each, each, None) for each in claim if each != part}
    if part[0] in ("least", "most"):
        return stay | {(part, unfolded(part), part[1])}
    ends = part[1:] if kind == "take" else (part[1 + side],)
    return stay | {(part, end, None) for end in ends}


def joined(first, second):
    """The ways of threads along two parts of a row, with the least variables."""
    found = set()
    for start, between, variable in first:
        for other, end, later in second:
            if between == other:
                known = [each for each in (variable, later) if each is not None]
                found.add((start, end, min(known, default=None)))
    return frozenset(found)


def all_rows_have_bad_threads(nodes, kinds):
    """What point 25 asks of endless rows, by all that can be put together from parts of rows.

    In each endless row there is a part that repeats so that its ways of threads stay the same.
    """
    reached = {0}
    while True:
        more = reached | {end for at in reached for end in nodes[at][3]}
        if more == reached:
            break
        reached = more
    found = {(at, end, frozenset(threads_on(nodes[at], side)))
             for at in reached for side, end in enumerate(nodes[at][3])}
    steps, fresh = set(found), set(found)
    while fresh:
        news = {(at, end, joined(ways, more)) for at, between, ways in fresh
                for other, end, more in steps if between == other}
        fresh = news - found
        found |= news
    for at, end, ways in found:
        if at == end and joined(ways, ways) == ways:
            if not any(s == t and variable is not None and kinds[variable] == "least"
                       for s, t, variable in ways):
                return False
    return True


def kinds_of(statement):
    """The kinds of the binders of a tidy statement, by their variables."""
    found = {statement[1]: statement[0]} if statement[0] in ("least", "most") else {}
    for part in statement[1:]:
        if isinstance(part, tuple):
            found.update(kinds_of(part))
    return found


def random_nodes(rng, statement):
    """Nodes as told for a statement, with any part chosen and any row; None if a claim has no way on."""
    order, nodes = [(tidy(statement),)], []
    while len(nodes) < len(order):
        claim = order[len(nodes)]
        if len(order) > 12:
            return None
        if clashes(claim):
            nodes.append((claim, "clash", None, ()))
            continue
        parts = [part for part in claim if part[0] in ("true", "and", "or", "least", "most")]
        parts = parts or [part for part in claim if part[0] == "some"]
        if not parts:
            return None
        part = rng.choice(parts)
        kind = {"or": "either", "some": "step"}.get(part[0], "take")
        ends = []
        for following in following_claims(claim, kind, part):
            if following not in order or rng.random() < 0.1:
                order.append(following)
                ends.append(len(order) - 1)
            else:
                ends.append(rng.choice([at for at, each in enumerate(order) if each == following]))
        nodes.append((claim, kind, part, tuple(ends)))
    return tuple(nodes)


class Checked(unittest.TestCase):
    def check(self, statement):
        """Decides a statement, and holds the result against its definition; returns its kind."""
        result = decide(statement)
        if result[0] == "world":
            _, world, state = result
            self.assertEqual(world.labels, max(1, 1 + greatest(statement, ("some", "all"))))
            self.assertEqual(world.facts, 1 + greatest(statement, ("has", "lacks")))
            self.assertIn(state, truth(world, statement))
            return "world"
        self.assertEqual(result[0], "refuted")
        nodes = result[1]
        self.assertIs(type(nodes), tuple)
        self.assertEqual(nodes[0][0], (tidy(statement),))
        for claim, kind, part, following in nodes:
            self.assertEqual(claim, tuple(sorted(set(claim))))
            if kind == "clash":
                self.assertTrue(clashes(claim) and part is None and following == ())
            else:
                self.assertIn(part, claim)
                self.assertEqual([nodes[at][0] for at in following], following_claims(claim, kind, part))
        self.assertIs(is_right(statement, nodes), True)
        if len(nodes) <= 8:
            self.assertTrue(all_rows_have_bad_threads(nodes, kinds_of(tidy(statement))))
        labels, facts = 1 + greatest(statement, ("some", "all")), 1 + greatest(statement, ("has", "lacks"))
        for states, steps in small_worlds(max(1, labels), facts):
            self.assertEqual(meaning(states, steps, statement, {}), set())
        return "refuted"


class Decide(Checked):
    def test_example(self):
        self.assertEqual(
            (decide(("has", 0))[0], decide(("least", 0, ("some", 0, ("var", 0))))[0]), ("world", "refuted"))

    def test_true_somewhere(self):
        for text in (
                "true", "p0", "!p5", "[0] false", "[2] false & <1> true", "p0 | p1 & !p1", "nu x0. <0> x0",
                "nu x0. p0 & <0> (!p0 & <0> x0)", "(mu x0. p0 | <0> x0) & !p0 & [0] !p0",
                "nu x0. (mu x1. p0 | <0> x1) & (mu x2. !p0 | <0> x2) & [0] x0 & <0> x0",
                "nu x0. mu x1. <0> (p0 & x0 | x1)", "mu x0. nu x1. <0> (p0 & x1 | x0)",
                "nu x0. <0> (p0 & x0) & <0> (!p0 & x0) & [0] (p1 & x0)",
                "<0> p0 & <0> !p0 & <1> (p0 & p1) & [0] p1 & [1] p0 & [2] false",
                "mu x0. [0] x0 & (<0> true | p1)", "nu x0. mu x1. [0] (p0 & x0 | x1) & <0> true"):
            with self.subTest(text):
                self.assertEqual(self.check(parse_statement(text)), "world")

    def test_only_in_worlds_that_go_round(self):
        statement = parse_statement("nu x0. p0 & <0> x0")
        _, world, state = decide(statement)
        self.assertIn(state, truth(world, statement))
        self.assertEqual(truth(world, ("least", 0, ("all", 0, ("var", 0)))), [])

    def test_refuted(self):
        for text in (
                "false", "p0 & !p0", "<0> false", "<0> p0 & [0] !p0", "mu x0. <0> x0", "false | p1 & !p1",
                "mu x0. <0> x0 | p0 & !p0", "nu x0. p0 & <0> (!p0 & x0)", "(mu x0. <0> x0) | (mu x0. <1> x0)",
                "<0> p0 & <0> p1 & <1> true & [0] (!p0 & !p1)", "nu x0. <0> (p0 & (mu x1. <0> x1 & x0))",
                "mu x0. nu x1. <0> (p0 & x0 & x1)", "nu x0. (mu x1. <0> (p0 & x1)) & <0> x0",
                "mu x0. (nu x1. <0> x1 & p0) & [0] x0", "mu x0. <0> x0 & (nu x1. <0> x1)",
                "(nu x0. mu x1. <0> (p0 & x0 | x1)) & (mu x2. nu x3. [0] (!p0 & x3 | x2))",
                "(nu x0. p0 & [0] x0) & (mu x1. !p0 | <0> x1)", "(mu x0. [0] x0) & (nu x1. <0> x1)"):
            with self.subTest(text):
                self.assertEqual(self.check(parse_statement(text)), "refuted")

    def test_binders_of_one_variable(self):
        self.assertEqual(self.check(("least", 3, ("some", 0, ("and", ("var", 3), ("most", 3, ("some", 0, ("var", 3))))))),
                         "refuted")

    def test_random_of_at_most_twelve_parts(self):
        rng = generator(100)
        kinds = []
        while len(kinds) < 2000:
            statement = random_statement(rng, rng.randint(1, 12), labels=rng.choice((1, 2)), facts=rng.choice((1, 2)))
            if guarded_under(statement, set()) and size(statement) <= 12:
                kinds.append(self.check(statement))
        self.assertGreater(kinds.count("refuted"), 100)

    def test_random_of_more_parts(self):
        rng = generator(101)
        done = 0
        while done < 300:
            statement = ("and", random_statement(rng, 15, facts=1), random_statement(rng, 15, labels=1, facts=1))
            if guarded_under(statement, set()):
                self.check(statement)
                done += 1

    def test_never_both(self):
        rng = generator(102)
        for _ in range(200):
            statement = random_statement(rng, 10)
            if guarded_under(statement, set()):
                both = ("and", statement, opposite(statement))
                self.assertEqual(self.check(both), "refuted")

    def test_forty_parts_and_more(self):
        statement = TRUE
        for _ in range(39):
            statement = ("some", 0, statement)
        self.assertEqual((size(statement), self.check(statement)), (40, "world"))
        self.assertRaises(TooLarge, decide, ("all", 0, statement))

    def test_errors_in_their_order(self):
        large = TRUE
        for _ in range(45):
            large = ("all", 0, large)
        unguarded = ("least", 0, ("or", ("var", 0), large))
        for function in (decide, is_valid):
            self.assertRaises(NotClosed, function, ("and", unguarded, ("var", 7)))
            self.assertRaises(NotGuarded, function, unguarded)
            self.assertRaises(TooLarge, function, large)
        self.assertRaises(NotClosed, follows, unguarded, ("var", 7))
        self.assertRaises(NotClosed, follows, ("var", 7), unguarded)
        self.assertRaises(NotGuarded, follows, large, unguarded)
        self.assertRaises(TooLarge, follows, TRUE, large)

    def test_equal_arguments_give_equal_results(self):
        statement = parse_statement("nu x0. (mu x1. p0 | <0> x1) & (mu x2. !p0 | <0> x2) & <0> x0")
        first, second = decide(statement), decide(statement)
        self.assertEqual((first[1].states, first[1].steps, first[2]), (second[1].states, second[1].steps, second[2]))


class Counted(unittest.TestCase):
    def test_worlds_found_by_counting(self):
        rng = generator(106)
        found = [0, 0]
        while sum(found) < 400:
            statement = random_statement(rng, rng.randint(4, 16), labels=1)
            if guarded_under(statement, set()):
                closure = Closure(statement)
                arena = Arena(closure, Counters(closure, rng.choice((1, 2, 3))))
                winner, chosen = search(arena, None)
                found[winner] += 1
                if winner == 0:
                    world, state = model_of(arena, chosen)
                    self.assertIn(state, truth(world, statement))
        self.assertGreater(min(found), 20)

    def test_large_arena(self):
        statement = parse_statement(
            "nu x1. <0> <0> (x1 | x1) & [0] (mu x3. [0] (mu x0. mu x4. [0] (nu x2. [0] (mu x3. [0] (([0] [0]"
            " (nu x4. x2 & x1) | [0] (mu x4. [0] [0] [0] (x2 & [0] x3 | x3))) & (nu x4. true))))))")
        kind, world, state = decide(statement)
        self.assertEqual(kind, "world")
        self.assertIn(state, truth(world, statement))


class Right(unittest.TestCase):
    def setUp(self):
        self.statement = parse_statement("(mu x0. <0> x0 | false) | p0 & <0> p1 & [0] !p1")
        self.nodes = decide(self.statement)[1]
        self.assertIs(is_right(self.statement, self.nodes), True)

    def changed(self, at, **parts):
        """The refutation with other parts of a node."""
        names = ("claim", "kind", "part", "following")
        node = tuple(parts.get(name, old) for name, old in zip(names, self.nodes[at]))
        return self.nodes[:at] + (node,) + self.nodes[at + 1:]

    def refuse(self, nodes):
        self.assertIs(is_right(self.statement, nodes), False)

    def test_followers(self):
        many = len(self.nodes)
        for at, (_, _, _, following) in enumerate(self.nodes):
            self.refuse(self.changed(at, following=following + (0,)))
            for place, end in enumerate(following):
                self.refuse(self.changed(at, following=following[:place] + following[place + 1:]))
                for other in (-1, many, end - many, many + end):
                    self.refuse(self.changed(at, following=following[:place] + (other,) + following[place + 1:]))
                for other in range(many):
                    if self.nodes[other][0] != self.nodes[end][0]:
                        self.refuse(self.changed(at, following=following[:place] + (other,) + following[place + 1:]))
            if len(following) == 2 and self.nodes[following[0]][0] != self.nodes[following[1]][0]:
                self.refuse(self.changed(at, following=following[::-1]))

    def test_kinds_parts_and_claims(self):
        for at, (claim, kind, part, _) in enumerate(self.nodes):
            for other in ("clash", "take", "either", "step", "", "Take", "some"):
                if other != kind:
                    self.refuse(self.changed(at, kind=other))
            for other in list(claim) + [None, ("has", 4), FALSE]:
                if other != part:
                    self.refuse(self.changed(at, part=other))
            self.refuse(self.changed(at, claim=claim + (("true",),)))
            self.refuse(self.changed(at, claim=claim + claim[-1:]))
            self.refuse(self.changed(at, claim=claim[1:]))
            if len(claim) > 1:
                self.refuse(self.changed(at, claim=claim[::-1]))

    def test_another_statement(self):
        self.assertIs(is_right(FALSE, self.nodes), False)
        self.assertIs(is_right(("or", self.statement, FALSE), self.nodes), False)
        self.refuse(())
        # The claim of node 0 has the tidy form, not the statement.
        untidy = ("least", 5, ("some", 0, ("var", 5)))
        nodes = decide(untidy)[1]
        self.assertIs(is_right(untidy, nodes), True)
        self.assertIs(is_right(untidy, (((untidy,),) + nodes[0][1:],) + nodes[1:]), False)

    def test_nodes_that_are_not_reached(self):
        more = (("has", 3), ("lacks", 3), ("least", 8, ("some", 1, ("var", 8))))
        self.assertIs(is_right(self.statement, self.nodes + ((more, "clash", None, ()),)), True)
        self.refuse(self.nodes + ((more[:1], "clash", None, ()),))
        self.refuse(self.nodes + ((more, "take", more[0], (0,)),))
        # What goes round without a thread does not count if it is not reached.
        round_ = ("most", 0, ("some", 0, ("var", 0)))
        many = len(self.nodes)
        told = (((round_,), "take", round_, (many + 1,)),
                ((unfolded(round_),), "step", unfolded(round_), (many,)))
        self.assertIs(is_right(self.statement, self.nodes + told), True)

    def test_goes_round(self):
        for kind, expected in (("least", True), ("most", False)):
            loop = (kind, 0, ("some", 0, ("var", 0)))
            nodes = (((loop,), "take", loop, (1,)), ((unfolded(loop),), "step", unfolded(loop), (0,)))
            self.assertIs(is_right(loop, nodes), expected)

    def test_step_before_all_is_taken_apart(self):
        statement = ("and", ("or", ("has", 0), ("has", 1)), ("some", 0, FALSE))
        claim = tuple(sorted(statement[1:]))
        nodes = (((statement,), "take", statement, (1,)),
                 (claim, "step", ("some", 0, FALSE), (2,)), ((FALSE,), "clash", None, ()))
        self.assertIs(is_right(statement, nodes), True)

    def test_least_variable_decides(self):
        inner = parse_statement("mu x0. nu x1. <0> (x0 | x1)")
        outer = parse_statement("nu x0. mu x1. <0> (x0 | x1)")
        for statement in (inner, outer):
            self.assertEqual(decide(statement)[0], "world")
        rng = generator(103)
        for statement in (inner, outer):
            for _ in range(30):
                nodes = random_nodes(rng, statement)
                self.assertIs(is_right(statement, nodes), False)

    def test_random(self):
        rng = generator(104)
        found = []
        while len(found) < 500:
            statement = random_statement(rng, rng.randint(5, 11), labels=1, facts=1)
            if guarded_under(statement, set()):
                nodes = random_nodes(rng, statement)
                if nodes is not None and any(node[1] != "clash" for node in nodes):
                    expected = all_rows_have_bad_threads(nodes, kinds_of(tidy(statement)))
                    self.assertIs(is_right(statement, nodes), expected)
                    found.append(expected)
        self.assertGreater(min(found.count(True), found.count(False)), 100)


class Valid(unittest.TestCase):
    def test_valid(self):
        for text in ("true", "p0 | !p0", "[0] true", "nu x0. [0] x0", "[0] (p0 | !p0)",
                     "(mu x0. [0] x0) | (nu x0. <0> x0)", "<0> p0 | [0] !p0"):
            self.assertIs(is_valid(parse_statement(text)), True)
        for text in ("false", "p0", "<0> true", "mu x0. [0] x0", "nu x0. <0> x0", "p0 | [0] false"):
            self.assertIs(is_valid(parse_statement(text)), False)

    def test_follows(self):
        for first, second, expected in [
                ("p0 & p1", "p0", True), ("p0", "p0 & p1", False), ("false", "p3", True), ("true", "p3", False),
                ("nu x0. p0 & [0] x0", "[0] [0] p0", True), ("[0] [0] p0", "nu x0. p0 & [0] x0", False),
                ("mu x0. nu x1. <0> (p0 & x1 | x0)", "nu x0. mu x1. <0> (p0 & x0 | x1)", True),
                ("nu x0. mu x1. <0> (p0 & x0 | x1)", "mu x0. nu x1. <0> (p0 & x1 | x0)", False),
                ("mu x0. p0 | <0> x0", "nu x0. p0 | <0> x0", True),
                ("nu x0. p0 | <0> x0", "mu x0. p0 | <0> x0", False)]:
            with self.subTest((first, second)):
                self.assertIs(follows(parse_statement(first), parse_statement(second)), expected)

    def test_unfolding_follows_both_ways(self):
        rng = generator(105)
        done = 0
        while done < 60:
            statement = (rng.choice(("least", "most")), 1, random_statement(rng, rng.randint(1, 6), bound=(1,)))
            if guarded_under(statement, set()) and size(unfolded(statement)) + size(statement) < 40:
                self.assertIs(follows(statement, unfolded(statement)), True)
                self.assertIs(follows(unfolded(statement), statement), True)
                done += 1
