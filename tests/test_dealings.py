"""What is wrong with a dealing, counts, copies left [7] [8]."""

import copy
import unittest

from tests.helper import (BASE, all_dealings, anything, edge_wishes, others_than, same_each_time, some_wishes,
                          wishes_ahead)
from wishdeal.dealings import copies_left, counts_of, what_is_wrong
from wishdeal.wishes import rank_of


class Wrong(unittest.TestCase):
    def test_dealings(self):
        for dealing in ([None] * 4, [0, 0, None, None], [0, 1, None, None], [1, 0, None, None]):
            self.assertIsNone(what_is_wrong(BASE, dealing))

    def test_form(self):
        rows = [[], [None] * 3, [None] * 5, (None,) * 4, [None, None, None, True], [False, None, None, None],
                [None, "0", None, None], [None, [0], None, None], [None, None, (), None], {0: 0, 1: 1, 2: 2, 3: 3}, "abcd"]
        for thing in rows:
            self.assertEqual(what_is_wrong(BASE, thing), ("form",), repr(thing))

    def test_form_of_anything(self):
        for odd in others_than(lambda thing: isinstance(thing, list) and len(thing) == 1):
            self.assertEqual(what_is_wrong(([1], [[[0]]]), odd), ("form",), repr(odd))
        for odd in others_than(lambda thing: thing is None or type(thing) is int):
            self.assertEqual(what_is_wrong(([1], [[[0]]]), [odd]), ("form",), repr(odd))

    def test_wish(self):
        rows = (([2, 2, None, None], 1), ([None, None, 0, None], 2), ([None, None, None, 0], 3), ([3, None, None, None], 0),
                ([-1, None, None, None], 0), ([0, 99, 99, None], 1), ([None, -1, None, 10 ** 59], 1))
        for thing, asker in rows:
            self.assertEqual(what_is_wrong(BASE, thing), ("wish", asker), repr(thing))

    def test_copies(self):
        rows = (([1, 1, None, None], 1), ([2, None, None, None], 2), ([1, 1, None, 2], 1), ([2, 0, None, 2], 2))
        for thing, least in rows:
            self.assertEqual(what_is_wrong(BASE, thing), ("copies", least), repr(thing))
        self.assertEqual(what_is_wrong(([0], [[[0]]]), [0]), ("copies", 0))
        seven = ([6], [[[0]]] * 7)
        self.assertEqual(what_is_wrong(seven, [0] * 7), ("copies", 0))
        self.assertIsNone(what_is_wrong(seven, [0] * 6 + [None]))
        self.assertIsNone(what_is_wrong(([7], [[[0]]] * 7), [0] * 7))

    def test_the_first_wrong_is_told(self):
        self.assertEqual(what_is_wrong(BASE, [1, 1, 9, True]), ("form",))
        self.assertEqual(what_is_wrong(BASE, [1, 1, 9, None]), ("wish", 2))

    def test_kinds_told(self):
        for thing in (None, [9, None, None, None], [1, 1, None, None]):
            self.assertIs(type(what_is_wrong(BASE, thing)), tuple)

    def test_nothing_is_wrong_with_any_dealing(self):
        for wishes in some_wishes(40):
            for dealing in all_dealings(wishes):
                self.assertIsNone(what_is_wrong(wishes, dealing))

    def test_nothing_is_changed(self):
        for thing in anything() + [[0, 0, None, None], [1, 1, None, None], [9, 9, 9, 9]]:
            ahead = repr(thing)
            told = what_is_wrong(copy.deepcopy(BASE), thing)
            self.assertEqual(what_is_wrong(BASE, thing), told)
            self.assertEqual(repr(thing), ahead)
        same_each_time(self, what_is_wrong, copy.deepcopy(BASE), [1, 1, None, None])


class Counts(unittest.TestCase):
    def test_counts(self):
        rows = (([None] * 4, [0, 0, 4]), ([0, 0, None, None], [1, 1, 2]), ([0, 1, None, None], [2, 0, 2]),
                ([None, 0, None, None], [0, 1, 3]))
        for dealing, counts in rows:
            self.assertEqual(counts_of(BASE, dealing), counts)

    def test_counts_where_no_list_has_ranks(self):
        self.assertEqual(counts_of(([1], [[], []]), [None, None]), [2])

    def test_counts_to_the_longest_list(self):
        wishes = edge_wishes()[3]
        self.assertEqual(counts_of(wishes, [0]), [0, 0, 0, 0, 1, 0])
        self.assertEqual(counts_of(wishes, [4]), [1, 0, 0, 0, 0, 0])
        self.assertEqual(counts_of(wishes, [None]), [0, 0, 0, 0, 0, 1])

    def test_copies_left(self):
        rows = (([None] * 4, [2, 1, 0]), ([0, 0, None, None], [0, 1, 0]), ([1, 0, None, None], [1, 0, 0]))
        for dealing, left in rows:
            self.assertEqual(copies_left(BASE, dealing), left)

    def test_all_dealings(self):
        for wishes in some_wishes(40):
            copies, lists = wishes
            for dealing in all_dealings(wishes):
                ranks = [0 if got is None else rank_of(wishes, asker, got) for asker, got in enumerate(dealing)]
                counts = counts_of(wishes, dealing)
                self.assertEqual(len(counts), max(len(ranks) for ranks in lists) + 1)
                self.assertEqual(counts[-1], ranks.count(0))
                self.assertEqual(counts[:-1], [ranks.count(at + 1) for at in range(len(counts) - 1)])
                left = copies_left(wishes, dealing)
                self.assertEqual([many + dealing.count(thing) for thing, many in enumerate(left)], copies)

    def test_told_lists_are_new(self):
        for call in (counts_of, copies_left):
            for dealing in ([None] * 4, [0, 0, None, None]):
                same_each_time(self, call, copy.deepcopy(BASE), dealing)

    def test_wishes_are_refused_ahead_of_all_else(self):
        wishes_ahead(self, [(what_is_wrong, 1), (counts_of, 1), (copies_left, 1)])


if __name__ == "__main__":
    unittest.main()
