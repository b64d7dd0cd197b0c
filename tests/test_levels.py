"""Levels within so many ranks, and dealings that reach them [17]."""

import copy
import unittest

from tests.helper import (BASE, all_dealings, edge_wishes, great_wishes, same_each_time, served_within, some_wishes,
                          wishes_ahead)
from wishdeal.best import best_dealing
from wishdeal.dealings import counts_of, what_is_wrong
from wishdeal.levels import level_dealing, level_of, worths_within
from wishdeal.wishes import all_wishes, longest

RANKS = (0, 1, 2, 3, 4, 5, 6, 7, 10 ** 59)


class Levels(unittest.TestCase):
    def look_at_dealing(self, wishes, ranks, level):
        dealing = level_dealing(wishes, ranks)
        self.assertIsNone(what_is_wrong(wishes, dealing))
        self.assertEqual(served_within(wishes, ranks, dealing), level)
        self.assertEqual(len([got for got in dealing if got is not None]), level)

    def test_levels(self):
        wishes = ([1, 1, 1], [[[0], [1]], [[0], [2]], [[0], [1], [2]], []])
        self.assertEqual([level_of(wishes, ranks) for ranks in RANKS], [0, 1, 3, 3, 3, 3, 3, 3, 3])
        wishes = ([1, 0, 2], [[[1], [0]], [[1, 0]], [[1], [0], [2]], [[0], [2]]])
        self.assertEqual([level_of(wishes, ranks) for ranks in RANKS], [0, 1, 2, 3, 3, 3, 3, 3, 3])

    def test_a_level_for_which_one_must_make_room(self):
        wishes = ([1, 1], [[[0, 1]], [[0]]])
        self.assertEqual(level_of(wishes, 1), 2)
        self.assertEqual(level_dealing(wishes, 1), [1, 0])

    def test_wishes_within(self):
        self.assertEqual(worths_within(BASE, 0), [])
        self.assertEqual(worths_within(BASE, 1), [(0, 0, 1), (0, 1, 1), (1, 1, 1), (3, 2, 1)])
        self.assertEqual(worths_within(BASE, 10 ** 59), [pair + (1,) for pair in all_wishes(BASE)])

    def test_none(self):
        for wishes in (([0], [[]]), ([0], [[[0]]]), ([7], [[]])):
            for ranks in RANKS:
                self.assertEqual(level_of(wishes, ranks), 0)
                self.assertEqual(level_dealing(wishes, ranks), [None])

    def test_beside_all_dealings(self):
        for wishes in edge_wishes()[:3] + some_wishes(120):
            dealings = all_dealings(wishes)
            for ranks in RANKS:
                level = level_of(wishes, ranks)
                self.assertEqual(level, max(served_within(wishes, ranks, dealing) for dealing in dealings))
                self.look_at_dealing(wishes, ranks, level)

    def test_greatest_sizes(self):
        told = []
        for wishes in great_wishes():
            told.append([level_of(wishes, ranks) for ranks in (0, 1, 2, 4, 5, 99)])
            for ranks in RANKS:
                self.look_at_dealing(wishes, ranks, level_of(wishes, ranks))
        self.assertEqual(told, [
            [0, 7, 7, 7, 7, 7], [0, 6, 6, 6, 6, 6], [0, 7, 7, 7, 7, 7], [0, 6, 6, 6, 6, 6], [0, 4, 6, 7, 7, 7],
            [0, 2, 3, 5, 7, 7], [0, 6, 6, 6, 6, 6], [0, 0, 0, 7, 7, 7]])

    def test_the_best_counts(self):
        for wishes in some_wishes(80, 6, 5) + great_wishes():
            firsts, full, lasts = [counts_of(wishes, best_dealing(wishes, (order, None, []))[0])
                                   for order in ("firsts", "full", "lasts")]
            if all_wishes(wishes):
                self.assertEqual(firsts[0], level_of(wishes, 1))
            beyond = len(wishes[1]) - level_of(wishes, longest(wishes))
            self.assertEqual([full[-1], lasts[-1]], [beyond, beyond])

    def test_nothing_is_changed_or_kept(self):
        for ranks in RANKS:
            same_each_time(self, level_of, copy.deepcopy(BASE), ranks)
            same_each_time(self, level_dealing, copy.deepcopy(BASE), ranks)

    def test_wishes_are_refused(self):
        wishes_ahead(self, [(level_of, 1), (level_dealing, 1)])


if __name__ == "__main__":
    unittest.main()
