"""The error classes of the interface."""

import unittest

from boxsums import errors

NAMES = ["NoField", "NoBox", "NoNumber", "NoTurn", "NoText", "NoRow", "NoBack"]


class Errors(unittest.TestCase):
    def test_box_error_stands_straight_under_value_error(self):
        self.assertEqual(errors.BoxError.__bases__, (ValueError,))

    def test_each_stands_straight_under_box_error(self):
        for name in NAMES:
            self.assertEqual(getattr(errors, name).__bases__, (errors.BoxError,), name)

    def test_none_stands_under_another_one(self):
        for one in NAMES:
            for other in NAMES:
                same = issubclass(getattr(errors, one), getattr(errors, other))
                self.assertIs(same, one == other, (one, other))

    def test_each_is_taken_as_any_refusal(self):
        for name in NAMES:
            with self.assertRaises(errors.BoxError):
                raise getattr(errors, name)()
            with self.assertRaises(ValueError):
                raise getattr(errors, name)()

    def test_no_text_has_the_line_it_was_made_with(self):
        self.assertEqual(errors.NoText(3).line, 3)
        self.assertEqual(errors.NoText(0).line, 0)
        try:
            raise errors.NoText(12)
        except errors.NoText as refusal:
            self.assertEqual(refusal.line, 12)

    def test_every_no_text_has_a_line_of_its_own(self):
        one = errors.NoText(1)
        other = errors.NoText(2)
        self.assertEqual((one.line, other.line), (1, 2))
        self.assertEqual(errors.NoText().line, 0)
        self.assertFalse(hasattr(errors.NoText, "line"))
