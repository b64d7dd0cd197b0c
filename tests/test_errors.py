"""The refusals: their classes, what they are made of, their values."""

import unittest

from wishdeal import errors

OF_A_TEXT = ("NoWay", "NoPlace", "NoChange", "NoNumbering", "NoJoin", "NoBook", "NoDeed", "NoRow", "NoName", "TooMany")
OF_VALUES = ("NoWishes", "NoAim", "NoText")


class Errors(unittest.TestCase):
    def test_deal_error_is_a_value_error_made_of_a_text(self):
        self.assertEqual(errors.DealError.__bases__, (ValueError,))
        self.assertEqual(str(errors.DealError("why")), "why")

    def test_all_thirteen_stand_straight_under_deal_error(self):
        for name in OF_A_TEXT + OF_VALUES:
            self.assertEqual(getattr(errors, name).__bases__, (errors.DealError,), name)
        self.assertEqual(len(OF_A_TEXT + OF_VALUES), 13)

    def test_ten_are_made_of_a_text(self):
        for name in OF_A_TEXT:
            self.assertEqual(str(getattr(errors, name)("why")), "why")

    def test_values_are_set_when_made(self):
        for part, number in (("wishes", None), ("copies", 3), ("lists", 0)):
            made = errors.NoWishes(part, number)
            self.assertEqual((made.part, made.number), (part, number))
        for part in ("aim", "order", "old", "turns"):
            self.assertEqual(errors.NoAim(part).part, part)
        for row in (0, 5):
            self.assertEqual(errors.NoText(row).row, row)


if __name__ == "__main__":
    unittest.main()
