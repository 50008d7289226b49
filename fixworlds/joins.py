"""Statements joined by and or or."""


def all_of(statements):
    """A statement that is true where all of a list are."""
    return balanced("and", statements, ("true",))


def any_of(statements):
    """A statement that is true where one of a list is."""
    return balanced("or", statements, ("false",))


def balanced(word, statements, nothing):
    """The statements joined by a word, so that few stand around each one."""
    if not statements:
        return nothing
    level = list(statements)
    while len(level) > 1:
        pairs = [(word, left, right) for left, right in zip(level[::2], level[1::2])]
        level = pairs + level[2 * len(pairs):]
    return level[0]


def joined(word, left, right):
    """Two statements joined, without one that changes nothing."""
    neutral, deciding = ("true",), ("false",)
    if word == "or":
        neutral, deciding = deciding, neutral
    if deciding in (left, right):
        return deciding
    if left == neutral or left in operands(word, right):
        return right
    if right == neutral or right in operands(word, left):
        return left
    return word, left, right


def operands(word, statement):
    """The list of the statements that are joined by a word in a statement, itself the first."""
    found = [statement]
    done = 0
    while done < len(found):
        if found[done][0] == word:
            found.extend(found[done][1:])
        done += 1
    return found
