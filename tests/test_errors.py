"""The classes of the refusals: their bases and the field `row`."""

import unittest

from wontbook import errors

ROW_KINDS = ["NoRow", "TooLong", "NoSentence", "Twice", "TooMany"]
OTHER_KINDS = ["NoAsk", "NoName", "NotTold", "Torn", "NoNews"]


class Bases(unittest.TestCase):
    def test_one_base_above_all(self):
        self.assertEqual(errors.WontError.__bases__, (ValueError,))
        self.assertEqual(errors.RowError.__bases__, (errors.WontError,))

    def test_refused_rows_stand_straight_under_row_error(self):
        for name in ROW_KINDS:
            self.assertEqual(getattr(errors, name).__bases__, (errors.RowError,), name)

    def test_other_refusals_stand_straight_under_the_base(self):
        for name in OTHER_KINDS:
            self.assertEqual(getattr(errors, name).__bases__, (errors.WontError,), name)

    def test_no_other_refusal(self):
        found = [name for name, value in vars(errors).items() if isinstance(value, type)]
        self.assertEqual(sorted(found), sorted(["WontError", "RowError"] + ROW_KINDS + OTHER_KINDS))


class Making(unittest.TestCase):
    def test_row_is_kept(self):
        for name in ["RowError"] + ROW_KINDS:
            for row in (0, 1, 20, int("9" * 80)):
                made = getattr(errors, name)(row)
                self.assertEqual(made.row, row)
                self.assertIs(type(made.row), int)

    def test_each_is_raised_and_taken_by_the_base(self):
        for name in ROW_KINDS:
            with self.assertRaises(errors.WontError):
                raise getattr(errors, name)(3)
        for name in OTHER_KINDS:
            with self.assertRaises(errors.WontError):
                raise getattr(errors, name)()


if __name__ == "__main__":
    unittest.main()
