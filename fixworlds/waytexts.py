"""Ways and machines as texts."""

from fixworlds.errors import InvalidMachine, StatementSyntaxError
from fixworlds.machines import Machine
from fixworlds.texts import Reader, format_statement

WAY_SIGNS = {"then": ";", "either": "+"}

# How strongly the text of a way holds together, as for statements.
WAY_STRENGTHS = {"either": 0, "then": 1}
STRONGEST_WAY = 2

# No number in the text of a machine is greater than 400.
MOST_DIGITS = 3


def format_way(way):
    """The text of a way."""
    word = way[0]
    if word == "step":
        return str(way[1])
    if word == "test":
        return "{" + format_statement(way[1]) + "}"
    if word == "again":
        return enclosed_way(way[1], STRONGEST_WAY) + "*"
    strength = WAY_STRENGTHS[word]
    # As both associate to the left, the right operand is stricter.
    left = enclosed_way(way[1], strength)
    return left + f" {WAY_SIGNS[word]} " + enclosed_way(way[2], strength + 1)


def enclosed_way(way, needed):
    """The text of a way, in parentheses if it holds together less than is needed."""
    text = format_way(way)
    if WAY_STRENGTHS.get(way[0], STRONGEST_WAY) < needed:
        return f"({text})"
    return text


def format_machine(machine):
    """The text of a machine."""
    lines = [f"machine {len(machine.rows)} {machine.start}"]
    for priority, row in zip(machine.priorities, machine.rows):
        lines.append(f"row {priority} {format_statement(row)}")
    return "\n".join(lines) + "\n"


def parse_machine(text):
    """The machine that a text writes."""
    lines = text.split("\n")
    words = lines[0].split(" ")
    if len(words) != 3:
        raise InvalidMachine("a text of a machine begins with a word and two numbers")
    rows = [row_in(line) for line in lines[1:-1]]
    machine = Machine(
        number_in(words[2]), [row for _, row in rows], [priority for priority, _ in rows])
    # Each machine has one text: so this refuses all that was passed over above.
    if format_machine(machine) != text:
        raise InvalidMachine("the text is not the one of a machine")
    return machine


def number_in(word):
    """The number that a word writes."""
    if not word.isdecimal() or len(word) > MOST_DIGITS:
        raise InvalidMachine("a word is no number of a machine")
    return int(word)


def row_in(line):
    """The priority and the row in a line."""
    words = line.split(" ")
    if len(words) < 3:
        raise InvalidMachine("a line has no row of a machine")
    try:
        return number_in(words[1]), Reader(" ".join(words[2:]), MOST_DIGITS).statement()
    except StatementSyntaxError:
        raise InvalidMachine("a row is no text of a statement") from None
