"""What the constructors of worlds, systems and games ask of numbers and rows."""


def is_number(value, least, greatest):
    """True if a value is an integer within limits; True and False are none."""
    return isinstance(value, int) and not isinstance(value, bool) and least <= value <= greatest


def ascends(row):
    """True if each item of a row is greater than the one before it."""
    return all(low < high for low, high in zip(row, row[1:]))
