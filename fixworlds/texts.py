"""Statements as texts."""

from fixworlds.errors import StatementSyntaxError
from fixworlds.parts import parts_of

BINDER_WORDS = {"least": "mu", "most": "nu"}
BINDER_KINDS = {"mu": "least", "nu": "most"}
SIGNS = {"and": "&", "or": "|"}
JOIN_WORDS = {"&": "and", "|": "or"}

# How strongly the text of a statement holds together: an operand needs parentheses if it
# holds together less than its place asks for.
STRENGTHS = {"least": 0, "most": 0, "or": 1, "and": 2}
STRONGEST = 3

DIGITS = "0123456789"
MOST_DIGITS = 2

# All tokens but those of variables; none of them begins another one.
TOKENS = (
    "true", "false", "mu", "nu", "&", "|", ".", "(", ")",
    "p0", "p1", "p2", "p3", "p4", "p5", "!p0", "!p1", "!p2", "!p3", "!p4", "!p5",
    "<0>", "<1>", "<2>", "[0]", "[1]", "[2]",
)

ATOMS = {
    "true": ("true",), "false": ("false",),
    "p0": ("has", 0), "p1": ("has", 1), "p2": ("has", 2),
    "p3": ("has", 3), "p4": ("has", 4), "p5": ("has", 5),
    "!p0": ("lacks", 0), "!p1": ("lacks", 1), "!p2": ("lacks", 2),
    "!p3": ("lacks", 3), "!p4": ("lacks", 4), "!p5": ("lacks", 5),
}

PREFIXES = {
    "<0>": ("some", 0), "<1>": ("some", 1), "<2>": ("some", 2),
    "[0]": ("all", 0), "[1]": ("all", 1), "[2]": ("all", 2),
}


def format_statement(statement):
    """The text of a statement."""
    parts = parts_of(statement)
    texts = [""] * len(parts)
    for at in reversed(range(len(parts))):
        head = parts[at].head
        operands = [(parts[place].head[0], texts[place]) for place in parts[at].inner]
        if head[0] in SIGNS:
            texts[at] = join_text(head[0], operands[0], operands[1])
        elif head[0] in BINDER_WORDS:
            texts[at] = f"{BINDER_WORDS[head[0]]} x{head[1]}. {operands[0][1]}"
        elif operands:
            texts[at] = prefix_text(head) + " " + enclosed(operands[0], STRONGEST)
        else:
            texts[at] = atom_text(head)
    return texts[0]


def atom_text(head):
    """The text of a statement with no other one in it."""
    if head[0] == "has":
        return f"p{head[1]}"
    if head[0] == "lacks":
        return f"!p{head[1]}"
    if head[0] == "var":
        return f"x{head[1]}"
    return head[0]


def prefix_text(head):
    """The text of a some or all, without the statement in it."""
    if head[0] == "some":
        return f"<{head[1]}>"
    return f"[{head[1]}]"


def join_text(word, left, right):
    """The text of an and or an or; as both associate to the left, the right operand is stricter."""
    strength = STRENGTHS[word]
    return enclosed(left, strength) + f" {SIGNS[word]} " + enclosed(right, strength + 1)


def enclosed(operand, needed):
    """The text of an operand, a pair (word, text), in parentheses if they are needed."""
    word, text = operand
    if STRENGTHS.get(word, STRONGEST) < needed:
        return f"({text})"
    return text


def parse_statement(text):
    """The statement that a text writes."""
    return Reader(text, MOST_DIGITS).statement()


def token_at(text, at, most_digits):
    """The token that begins there, or an empty text if none does."""
    for token in TOKENS:
        if text.startswith(token, at):
            return token
    return variable_at(text, at, most_digits)


def variable_at(text, at, most_digits):
    """The token of a variable that begins there, with as many digits as can be, or an empty text."""
    digits = text[at + 1:at + 1 + most_digits]
    many = 0
    while many < len(digits) and digits[many] in DIGITS:
        many += 1
    if text[at] != "x" or many == 0:
        return ""
    return "x0" if digits[0] == "0" else "x" + digits[:many]


class Reader:
    """Reads the text of a statement from the left; a variable has at most so many digits.

    What is read, but not joined yet, stands in two lists: statements, and the heads of binders,
    prefixes and signs that wait for an operand, with "(" between them.
    """

    def __init__(self, text, most_digits):
        self.text = text
        self.most_digits = most_digits
        self.at = 0
        self.token = ""
        self.operands = []
        self.pending = []
        self._advance(0)

    def _advance(self, many):
        """Goes on behind so many characters, and takes the next token; at the end there is none."""
        self.at += many
        while self.at < len(self.text) and self.text[self.at] == " ":
            self.at += 1
        self.token = ""
        if self.at < len(self.text):
            self.token = token_at(self.text, self.at, self.most_digits)

    def _pass(self):
        """Goes on behind the token."""
        self._advance(len(self.token))

    def _fail(self):
        raise StatementSyntaxError(self.at)

    def statement(self):
        """The statement of the whole text."""
        self._read_binders()
        while self._read_operand():
            pass
        self._join(0)
        if self.at < len(self.text) or self.pending:
            self._fail()
        return self.operands[0]

    def _read_binders(self):
        """Reads binders; this is called only where they may stand."""
        while self.token in BINDER_KINDS:
            kind = BINDER_KINDS[self.token]
            self._pass()
            if not self.token.startswith("x"):
                self._fail()
            self.pending.append((kind, int(self.token[1:])))
            self._pass()
            if self.token != ".":
                self._fail()
            self._pass()

    def _read_operand(self):
        """Reads as far as to a sign behind an operand; returns False if there is no sign."""
        while self.token in PREFIXES or self.token == "(":
            self._read_opening()
        if self.token in ATOMS:
            self.operands.append(ATOMS[self.token])
        elif self.token.startswith("x"):
            self.operands.append(("var", int(self.token[1:])))
        else:
            self._fail()
        self._pass()
        self._join(STRONGEST)
        while self.token == ")":
            self._close()
        return self._read_sign()

    def _read_opening(self):
        token = self.token
        self._pass()
        if token == "(":
            self.pending.append(("(",))
            self._read_binders()
        else:
            self.pending.append(PREFIXES[token])

    def _close(self):
        """Joins all as far as to the opening parenthesis."""
        self._join(0)
        if not self.pending:
            self._fail()
        self.pending.pop()
        self._pass()
        self._join(STRONGEST)

    def _read_sign(self):
        if self.token not in JOIN_WORDS:
            return False
        word = JOIN_WORDS[self.token]
        self._join(STRENGTHS[word])
        self.pending.append((word,))
        self._pass()
        return True

    def _join(self, least):
        """Joins what is pending and holds at least so strongly, as far as to a parenthesis."""
        while self.pending and self.pending[-1] != ("(",):
            head = self.pending[-1]
            if STRENGTHS.get(head[0], STRONGEST) < least:
                return
            self.pending.pop()
            right = self.operands.pop()
            if head[0] in SIGNS:
                self.operands.append(head + (self.operands.pop(), right))
            else:
                self.operands.append(head + (right,))
