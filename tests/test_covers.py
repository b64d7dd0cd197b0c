"""Covers: the told one, what is let by, what one tells [17]; no dealing serves more than that [3] (f)."""

import copy
import itertools
import unittest

from tests.helper import (BASE, all_dealings, anything, edge_wishes, great_wishes, same_each_time, served_within,
                          some_wishes, wishes_ahead)
from wishdeal.covers import cover_for, lets_cover, size_of
from wishdeal.levels import level_of

RANKS = (0, 1, 2, 3, 5, 6, 10 ** 59)

# Asker 0 wishes for 0, then 1; asker 1 for 1; asker 2 for nothing.
WISHES = ([3, 2], [[[0], [1]], [[1]], []])

COVERS = (
    (0, ([], [])), (0, ([0], [])), (0, ([0, 1, 2], [0, 1])),
    (1, ([0, 1], [])), (1, ([0], [1])), (1, ([1], [0])), (1, ([], [0, 1])), (1, ([0, 1, 2], [0, 1])),
    (2, ([0, 1], [])), (2, ([0], [1])), (2, ([], [0, 1])),
    (10 ** 59, ([0, 1], [])), (10 ** 59, ([0, 2], [1])), (10 ** 59, ([], [0, 1])),
)

NO_COVERS = (
    (1, ([], [])), (1, ([0], [])), (1, ([1], [])), (1, ([0, 2], [0])), (1, ([], [0])), (1, ([], [1])), (1, ([1], [1])),
    (2, ([1], [0])), (2, ([2], [1])), (10 ** 59, ([1], [0])), (10 ** 59, ([], [1])),
    (0, ([1, 0], [])), (0, ([0, 0], [])), (0, ([], [1, 0])), (0, ([], [1, 1])), (0, ([0, 2, 1], [])),
    (0, ([3], [])), (0, ([], [2])), (0, ([-1], [])), (0, ([], [-1])), (0, ([0, 10 ** 59], [])), (0, ([], [10 ** 59])),
    (0, ([True], [])), (0, ([False, 1], [])), (0, ([], [False])), (0, ([], [0, True])),
    (0, ([None], [])), (0, ([], [None])), (0, (["0"], [])), (0, ([], ["0"])), (0, ([[0]], [])), (0, ([], [(0,)])),
    (0, ((), [])), (0, ([], ())), (0, ("", "")), (0, (None, [])), (0, ([], None)), (0, ({}, {})), (0, ([], {0: 0})),
    (0, [[], []]), (0, ([],)), (0, ([], [], [])), (0, ()), (0, (([], []),)), (0, None), (0, {0: [], 1: []}), (0, 2),
    (2, ((0, 1), [])), (2, ([0, 1], ())), (2, [[0, 1], []]), (2, ([0, 1],)), (2, ([0, 1], [], [])), (2, ([1, 0], [])),
)


class LetBy(unittest.TestCase):
    def test_covers(self):
        for ranks, cover in COVERS:
            self.assertIs(lets_cover(WISHES, ranks, cover), True, (ranks, cover))

    def test_no_covers(self):
        for ranks, thing in NO_COVERS:
            ahead = repr(thing)
            self.assertIs(lets_cover(WISHES, ranks, thing), False, (ranks, thing))
            self.assertEqual(repr(thing), ahead)

    def test_anything(self):
        covers = [repr(cover) for cover in (([], []), ([0], []), ([], [0]))]
        for odd in anything():
            for thing in (odd, (odd, []), ([], odd), ([odd], []), ([], [odd])):
                told = repr(thing) in covers + ["([1], [])", "([], [1])", "([1, 2], [])"]
                self.assertIs(lets_cover(WISHES, 0, thing), told, repr(thing))
                self.assertIs(lets_cover(WISHES, 1, thing), False, repr(thing))

    def test_each_cover_of_small_wishes(self):
        for wishes in some_wishes(30, 3, 3):
            parts = [[list(row) for size in range(many + 1) for row in itertools.combinations(range(many), size)]
                     for many in (len(wishes[1]), len(wishes[0]))]
            for ranks in (0, 1, 2, 10 ** 59):
                most = max(served_within(wishes, ranks, dealing) for dealing in all_dealings(wishes))
                for cover in itertools.product(*parts):
                    told = all(asker in cover[0] or thing in cover[1] for asker, lists in enumerate(wishes[1])
                               for rank in lists[:ranks] for thing in rank)
                    self.assertIs(lets_cover(wishes, ranks, cover), told)
                    if told:
                        self.assertGreaterEqual(size_of(wishes, cover), most)

    def test_sizes(self):
        sizes = [0, 1, 8, 2, 3, 4, 5, 8, 2, 3, 5, 2, 4, 5]
        self.assertEqual([size_of(WISHES, cover) for ranks, cover in COVERS], sizes)
        self.assertEqual(size_of(([0, 7], [[[0]], []]), ([1], [0])), 1)


class Told(unittest.TestCase):
    def look_at_cover(self, wishes, ranks):
        cover = cover_for(wishes, ranks)
        self.assertIs(lets_cover(wishes, ranks, cover), True, (wishes, ranks, cover))
        self.assertEqual(size_of(wishes, cover), level_of(wishes, ranks), (wishes, ranks, cover))

    def test_just_the_level(self):
        for wishes in edge_wishes() + some_wishes(120, 6, 6) + great_wishes():
            for ranks in RANKS:
                self.look_at_cover(wishes, ranks)

    def test_some(self):
        self.assertEqual(cover_for(([1], [[[0]], [[0]]]), 1), ([], [0]))
        self.assertEqual(cover_for(([2, 3], [[[0], [1]]]), 1), ([0], []))
        self.assertEqual(cover_for(([2, 3], [[], []]), 9), ([], []))
        self.assertEqual(cover_for(([2, 3], [[[0], [1]]]), 0), ([], []))
        self.assertEqual(cover_for(([1, 7], [[[0]], [[0]], [[1], [0]]]), 2), ([2], [0]))

    def test_nothing_is_changed_or_kept(self):
        for ranks in RANKS:
            same_each_time(self, cover_for, copy.deepcopy(BASE), ranks)
        for ranks, cover in COVERS + NO_COVERS[:5]:
            same_each_time(self, lets_cover, copy.deepcopy(WISHES), ranks, copy.deepcopy(cover))
            same_each_time(self, size_of, copy.deepcopy(WISHES), copy.deepcopy(cover))

    def test_wishes_are_refused(self):
        wishes_ahead(self, [(cover_for, 1), (lets_cover, 2), (size_of, 1)])


if __name__ == "__main__":
    unittest.main()
