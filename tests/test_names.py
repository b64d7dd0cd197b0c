"""Whole numbers and names [2] [4]."""

import string
import unittest

from tests.helper import others_than
from wishdeal.names import above_nought, are_numbers, is_name, is_number, is_number_below, is_whole


class Whole(unittest.TestCase):
    def test_whole_numbers(self):
        for number in (0, 1, -1, 7, 10 ** 59, -(10 ** 59)):
            self.assertIs(is_whole(number), True)

    def test_truths_are_none(self):
        self.assertIs(is_whole(True), False)
        self.assertIs(is_whole(False), False)

    def test_other_kinds_are_none(self):
        for thing in others_than(lambda thing: type(thing) is int):
            self.assertIs(is_whole(thing), False, repr(thing))

    def test_numbers_from_0_on(self):
        self.assertEqual([number for number in range(-2, 3) if is_number(number)], [0, 1, 2])
        for thing in others_than(lambda thing: type(thing) is int):
            self.assertIs(is_number(thing), False, repr(thing))

    def test_so_many_numbers(self):
        for things, many, told in (([], 0, True), ([], 1, False), ([0, 7], 2, True), ((0, 7), 2, True), ([0], 2, False),
                                   ([0, -1], 2, False), ([0, True], 2, False), ((None,), 1, False)):
            self.assertIs(are_numbers(things, many), told, things)

    def test_places_of_numbers_above_0(self):
        self.assertEqual(above_nought([0, 3, 0, 10 ** 59, 1]), [1, 3, 4])
        self.assertEqual(above_nought([]), [])

    def test_numbers_below(self):
        self.assertEqual([number for number in range(-2, 6) if is_number_below(number, 3)], [0, 1, 2])
        for thing in others_than(lambda thing: type(thing) is int):
            self.assertIs(is_number_below(thing, 3), False, repr(thing))


class Names(unittest.TestCase):
    def test_one_to_eight_letters(self):
        for text in ("a", "z", "ann", "abcdefgh", "zzzzzzzz"):
            self.assertIs(is_name(text), True, text)
        for letter in string.ascii_lowercase:
            self.assertIs(is_name(letter), True, letter)

    def test_too_few_and_too_many(self):
        for text in ("", "abcdefghi", "a" * 1303):
            self.assertIs(is_name(text), False, text)

    def test_other_signs(self):
        for number in [9, 10] + list(range(32, 127)):
            sign = chr(number)
            if sign not in string.ascii_lowercase:
                for text in (sign, "a" + sign, sign + "a", "a" + sign + "a"):
                    self.assertIs(is_name(text), False, repr(text))

    def test_other_kinds(self):
        for thing in others_than(lambda thing: isinstance(thing, str)) + [["a"], ("a",), {"a": 1}, b"ann"]:
            self.assertIs(is_name(thing), False, repr(thing))


if __name__ == "__main__":
    unittest.main()
