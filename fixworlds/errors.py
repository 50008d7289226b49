"""The errors that the program raises."""


class FixError(ValueError):
    """The base class of all errors of the program."""


class InvalidWorld(FixError):
    """Something is no world, or no text of one."""


class InvalidSystem(FixError):
    """Something is no system of equations."""


class InvalidGame(FixError):
    """Something is no game."""


class InvalidMachine(FixError):
    """Something is no machine, or no text of one."""


class NotClosed(FixError):
    """A variable is free in a statement."""


class NotGuarded(FixError):
    """A statement is not guarded."""


class TooLarge(FixError):
    """Something has more parts, states or positions than a function takes."""


class StatementSyntaxError(FixError):
    """A text is not the text of a statement; position tells where it fails."""

    def __init__(self, position):
        FixError.__init__(self, f"no text of a statement goes on so at {position}")
        self.position = position
