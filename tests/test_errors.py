"""Point 4: the errors."""

import unittest

from fixworlds import errors


class Errors(unittest.TestCase):
    def test_base_class(self):
        self.assertEqual(errors.FixError.__bases__, (ValueError,))

    def test_all_stand_directly_below_the_base_class(self):
        for name in ("InvalidWorld", "InvalidSystem", "InvalidGame", "InvalidMachine", "NotClosed",
                     "NotGuarded", "TooLarge", "StatementSyntaxError"):
            with self.subTest(name):
                self.assertEqual(getattr(errors, name).__bases__, (errors.FixError,))

    def test_syntax_error_has_a_position(self):
        self.assertEqual(errors.StatementSyntaxError(7).position, 7)
