"""Point 10: the texts of statements."""

import functools
import re
import unittest

from fixworlds.errors import FixError, StatementSyntaxError
from fixworlds.texts import format_statement, parse_statement
from tests.reference import generator, random_statement

PRINTED = [
    (("true",), "true"), (("false",), "false"), (("has", 0), "p0"), (("has", 5), "p5"),
    (("lacks", 0), "!p0"), (("lacks", 5), "!p5"), (("var", 0), "x0"), (("var", 99), "x99"),
    (("some", 0, ("true",)), "<0> true"), (("all", 2, ("all", 1, ("var", 10))), "[2] [1] x10"),
    (("and", ("and", ("has", 0), ("has", 1)), ("has", 2)), "p0 & p1 & p2"),
    (("and", ("has", 0), ("and", ("has", 1), ("has", 2))), "p0 & (p1 & p2)"),
    (("or", ("or", ("has", 0), ("has", 1)), ("has", 2)), "p0 | p1 | p2"),
    (("or", ("has", 0), ("or", ("has", 1), ("has", 2))), "p0 | (p1 | p2)"),
    (("or", ("and", ("has", 0), ("has", 1)), ("and", ("has", 2), ("has", 3))), "p0 & p1 | p2 & p3"),
    (("and", ("or", ("has", 0), ("has", 1)), ("or", ("has", 2), ("has", 3))),
     "(p0 | p1) & (p2 | p3)"),
    (("some", 1, ("and", ("has", 0), ("true",))), "<1> (p0 & true)"),
    (("all", 1, ("or", ("has", 0), ("true",))), "[1] (p0 | true)"),
    (("and", ("some", 1, ("has", 0)), ("all", 0, ("has", 1))), "<1> p0 & [0] p1"),
    (("least", 3, ("most", 4, ("var", 3))), "mu x3. nu x4. x3"),
    (("least", 3, ("or", ("var", 3), ("has", 1))), "mu x3. x3 | p1"),
    (("least", 3, ("and", ("var", 3), ("has", 1))), "mu x3. x3 & p1"),
    (("or", ("least", 3, ("var", 3)), ("most", 3, ("var", 3))), "(mu x3. x3) | (nu x3. x3)"),
    (("and", ("least", 3, ("var", 3)), ("most", 3, ("var", 3))), "(mu x3. x3) & (nu x3. x3)"),
    (("some", 0, ("least", 3, ("true",))), "<0> (mu x3. true)"),
    (("all", 0, ("most", 3, ("true",))), "[0] (nu x3. true)"),
    (("most", 0, ("and", ("or", ("has", 1), ("lacks", 0)), ("all", 2, ("var", 0)))),
     "nu x0. (p1 | !p0) & [2] x0"),
]

REFUSED = [
    ("", 0), ("   ", 3), ("p0 & mu x0. x0", 5), ("p0 p1", 3), ("p0p1", 2), ("p0 &", 4),
    ("p0 & ", 5), ("& p0", 0), ("p0 & & p1", 5), ("p0 & | p1", 5), ("(p0", 3), ("(p0 ", 4),
    ("p0)", 2), ("(p0))", 4), ("()", 1), (")", 0), ("(", 1), ("((p0)", 5), ("p0 (p1)", 3),
    ("p6", 0), ("p", 0), ("!p6", 0), ("!", 0), ("! p0", 0), ("!x0", 0), ("p 0", 0), ("p00", 2),
    ("p10", 2), ("x", 0), ("x 1", 0), ("x00", 2), ("x01", 2), ("x100", 3), ("x999", 3), ("x-1", 0),
    ("<3> p0", 0), ("[3] p0", 0), ("< 0> p0", 0), ("<0 > p0", 0), ("<0] p0", 0), ("<00> p0", 0),
    ("<0>", 3), ("<0> & p0", 4), ("p0 <0> p1", 3), ("<", 0), ("p0 & <0", 5), ("p0 & tru", 5),
    ("True", 0), ("truefalse", 4), ("true true", 5), ("mu", 2), ("mu ", 3), ("mu x0", 5),
    ("mu x0.", 6), ("mu x0 x0", 6), ("mu p0. p0", 3), ("mu x0, x0", 5), ("mu . x0", 3),
    ("mu mu x0. x0", 3), ("mu x0.. x0", 6), ("mu x100. x10", 6), ("mu x05. x0", 5),
    ("mu x6. p6", 7), ("<0> mu x0. x0", 4), ("[0] nu x0. x0", 4), ("(mu x0. x0) & nu x0. x0", 14),
    ("p0 | nu x0. x0", 5), ("(p0 & mu x0. x0)", 6), ("mu x0. p0 & mu x1. x1", 12), (". p0", 0),
    ("p0.", 2), ("x0. p0", 2), ("p0\n", 2), ("\tp0", 0), ("p0 $", 3), ("p0 & $", 5), ("p1 p0 $", 3),
    ("p\u0663", 0), ("x\u0663", 0), ("x1\u0663", 2),
]

READ = [
    ("p0&p1|p2", ("or", ("and", ("has", 0), ("has", 1)), ("has", 2))),
    ("  p0  ", ("has", 0)), ("<0>[1]!p5", ("some", 0, ("all", 1, ("lacks", 5)))),
    ("mux0.nux1.x0", ("least", 0, ("most", 1, ("var", 0)))),
    ("( ( (true) ) )", ("true",)), ("((mu x10 . x10))", ("least", 10, ("var", 10))),
    ("x9", ("var", 9)), ("mu x0.(mu x0.x0)&x0",
                         ("least", 0, ("and", ("least", 0, ("var", 0)), ("var", 0)))),
    ("p0 | p1 & p2 | p3", ("or", ("or", ("has", 0), ("and", ("has", 1), ("has", 2))), ("has", 3))),
    ("<0> p0 & p1", ("and", ("some", 0, ("has", 0)), ("has", 1))),
    ("(nu x0. p0 | x0) & p1", ("and", ("most", 0, ("or", ("has", 0), ("var", 0))), ("has", 1))),
    ("mu x0. p0 & p1 | x0", ("least", 0, ("or", ("and", ("has", 0), ("has", 1)), ("var", 0)))),
    ("[0] (mu x1. x1)", ("all", 0, ("least", 1, ("var", 1)))),
    ("p0 & (p1 & p2)", ("and", ("has", 0), ("and", ("has", 1), ("has", 2)))),
]

TOKEN = re.compile(r" *(true|false|mu|nu|!?p[0-5]|x(?:[1-9][0-9]|[0-9])|<[0-2]>|\[[0-2]\]|[&|.()])")


def letter(token):
    """The part that a token plays in the grammar."""
    if token in ("mu", "nu"):
        return "m"
    if token[0] in "<[":
        return "s"
    if token[0] == "x":
        return "v"
    if token in ("&", "|", ".", "(", ")"):
        return token
    return "a"


@functools.lru_cache(None)
def is_prefixed(word):
    return (word in ("a", "v") or (word[:1] == "s" and is_prefixed(word[1:]))
            or (word[:1] == "(" and word[-1:] == ")" and is_whole(word[1:-1])))


@functools.lru_cache(None)
def is_conjunction(word):
    return is_prefixed(word) or any(
        is_conjunction(word[:at]) and is_prefixed(word[at + 1:])
        for at, sign in enumerate(word) if sign == "&")


@functools.lru_cache(None)
def is_disjunction(word):
    return is_conjunction(word) or any(
        is_disjunction(word[:at]) and is_conjunction(word[at + 1:])
        for at, sign in enumerate(word) if sign == "|")


@functools.lru_cache(None)
def is_whole(word):
    return is_disjunction(word) or (word[:3] == "mv." and is_whole(word[3:]))


def can_go_on(word):
    """True if some row of tokens behind these makes a statement."""
    closing = ")" * word.count("(")
    return any(is_whole(word + middle + closing[at:])
               for middle in ("", "a", "v.a", ".a") for at in range(len(closing) + 1))


def told_position(text):
    """The position that point 10 tells for a text, or None if it is the text of a statement."""
    at, word = 0, ""
    while text[at:].strip(" "):
        token = TOKEN.match(text, at)
        start = at + len(text[at:]) - len(text[at:].lstrip(" "))
        if not token or not can_go_on(word + letter(token[1])):
            return start
        word, at = word + letter(token[1]), token.end()
    return None if is_whole(word) else len(text)


def position_of(text):
    """The position of the error that reading a text raises, or None if it raises none."""
    try:
        parse_statement(text)
    except StatementSyntaxError as error:
        return error.position
    return None


class Printing(unittest.TestCase):
    def test_printed(self):
        for statement, text in PRINTED:
            with self.subTest(text):
                self.assertEqual(format_statement(statement), text)
                self.assertEqual(parse_statement(text), statement)

    def test_round_trip(self):
        rng = generator(9)
        for _ in range(400):
            statement = random_statement(rng, rng.randint(1, 30), labels=3, facts=6, free=(0, 99))
            self.assertEqual(parse_statement(format_statement(statement)), statement)

    def test_spaces_stand_only_where_told(self):
        rng = generator(10)
        for _ in range(200):
            text = format_statement(random_statement(rng, rng.randint(1, 30), free=(42,)))
            self.assertNotIn("  ", text)
            bare = text.replace(" ", "")
            spaced = re.sub(r"([&|])", r" \1 ", bare)
            spaced = re.sub(r"(<.>|\[.\]|mu|nu|\.)", r"\1 ", spaced)
            self.assertEqual(text, spaced)

    def test_no_parentheses_can_be_left_out(self):
        rng = generator(11)
        for _ in range(150):
            statement = random_statement(rng, rng.randint(1, 20), free=(42,))
            text = format_statement(statement)
            for start in [at for at, sign in enumerate(text) if sign == "("]:
                deep, end = 1, start
                while deep:
                    end += 1
                    deep += {"(": 1, ")": -1}.get(text[end], 0)
                shorter = text[:start] + text[start + 1:end] + text[end + 1:]
                try:
                    self.assertNotEqual(parse_statement(shorter), statement)
                except StatementSyntaxError:
                    pass

    def test_deep_statements(self):
        statement = ("var", 0)
        for _ in range(38):
            statement = ("all", 0, statement)
        self.assertEqual(format_statement(("least", 0, statement)), "mu x0. " + "[0] " * 38 + "x0")


class Reading(unittest.TestCase):
    def test_read(self):
        for text, statement in READ:
            with self.subTest(text):
                self.assertEqual(parse_statement(text), statement)

    def test_refused(self):
        for text, position in REFUSED:
            with self.subTest(text):
                with self.assertRaises(StatementSyntaxError) as caught:
                    parse_statement(text)
                self.assertEqual(caught.exception.position, position)
                self.assertIsInstance(caught.exception, FixError)

    def test_spaces_between_all_tokens(self):
        rng = generator(12)
        for _ in range(100):
            statement = random_statement(rng, rng.randint(1, 25), labels=3, facts=6, free=(99,))
            text = format_statement(statement)
            tokens = TOKEN.findall(text)
            self.assertEqual(parse_statement("".join(tokens)), statement)
            self.assertEqual(parse_statement("   " + "   ".join(tokens) + "  "), statement)

    def test_random_rows_of_tokens(self):
        rng = generator(13)
        words = ["p0", "!p1", "true", "x0", "x10", "mu", "nu", ".", "&", "|", "(", ")", "<0>", "[1]",
                 "mu x0.", "(mu x1.", "(p0", "& x1", "7", "?", "x"]
        for _ in range(4000):
            text = rng.choice(("", " ")).join(rng.choices(words, k=rng.randint(0, 9)))
            self.assertEqual(position_of(text), told_position(text), text)

    def test_statements_with_one_character_changed(self):
        rng = generator(14)
        for _ in range(1500):
            text = format_statement(random_statement(rng, rng.randint(1, 9), free=(12,)))
            at = rng.randrange(len(text))
            text = text[:at] + rng.choice(["", "(", ")", " ", "x", "&", "0", "m", "."]) + text[at + 1:]
            self.assertEqual(position_of(text), told_position(text), text)

    def test_as_long_as_texts_may_be(self):
        text = "(" * 30 + "p0" + ")" * 30
        self.assertEqual(parse_statement(text), ("has", 0))
        text = "<0>" * 132 + "p0"
        self.assertEqual(format_statement(parse_statement(text)), "<0> " * 132 + "p0")
        text = "mu x0." * 66 + "x0"
        self.assertEqual(parse_statement(text)[0], "least")
        text = "&".join(["p0"] * 133)
        self.assertEqual(format_statement(parse_statement(text)), " & ".join(["p0"] * 133))
