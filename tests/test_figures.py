"""Numbers written and read [4]."""

import unittest

from tests.helper import others_than, refusal
from wishdeal.errors import NoText
from wishdeal.figures import read_number, show_number

NUMBERS = list(range(-120, 121)) + [10 ** 59, 10 ** 60 - 1, -(10 ** 59), -(10 ** 60 - 1), 10 ** 20, -(10 ** 20)]


class Figures(unittest.TestCase):
    def refused(self, thing):
        told = refusal(read_number, thing)
        self.assertIs(type(told), NoText, repr(thing))
        self.assertEqual(told.row, 0)

    def test_shown(self):
        rows = ((0, "0"), (7, "7"), (10, "10"), (-1, "-1"), (-305, "-305"), (10 ** 59, "1" + "0" * 59))
        for number, text in rows:
            self.assertEqual(show_number(number), text)

    def test_what_is_shown_is_read(self):
        for number in NUMBERS:
            told = read_number(show_number(number))
            self.assertEqual(told, number)
            self.assertIs(type(told), int)

    def test_read(self):
        for text, number in (("0", 0), ("9", 9), ("10", 10), ("-10", -10), ("1234567890", 1234567890)):
            self.assertEqual(read_number(text), number)

    def test_sixty_figures_and_beyond(self):
        self.assertEqual(read_number("9" * 60), 10 ** 60 - 1)
        self.assertEqual(read_number("-" + "9" * 60), 1 - 10 ** 60)
        for text in ("9" * 61, "-" + "9" * 61, "1" + "0" * 60, "9" * 1303):
            self.refused(text)

    def test_a_nought_ahead(self):
        for text in ("00", "01", "007", "-0", "-00", "-01", "0" * 60):
            self.refused(text)

    def test_other_texts(self):
        for text in ("", "-", "--1", "+1", "+0", " 1", "1 ", "1\n", "\t1", "1-", "1_0", "1 0", "1.0", "1e3", "0x1", "a",
                     "- 1", "-1-", "1,0", "/1", ":1"):
            self.refused(text)

    def test_other_signs(self):
        for number in [9, 10] + list(range(32, 127)):
            sign = chr(number)
            if sign not in "0123456789":
                for text in (sign, "1" + sign, "1" + sign + "1", "-" + sign):
                    self.refused(text)

    def test_other_kinds(self):
        for thing in others_than(lambda thing: isinstance(thing, str) and thing == "0"):
            self.refused(thing)
        for thing in (["1"], ("1",), {"1": 1}, b"1", 1, 0, True):
            self.refused(thing)


if __name__ == "__main__":
    unittest.main()
