"""Wishes and dealings copy by copy [26] [3] (i)."""

import copy
import random
import unittest

from tests.helper import (all_dealings, all_refused, anything, same_each_time, some_list, some_wishes, wishes_ahead)
from wishdeal.best import best_dealing
from wishdeal.dealings import counts_of, what_is_wrong
from wishdeal.errors import NoJoin
from wishdeal.singles import singled, singled_dealing, whole_dealing
from wishdeal.wishes import look_at_wishes

WISHES = ([2, 0, 1, 3], [[[3, 0], [1], [2]], [[1]], [[2, 1], [0]], []])


def may_be_singled(many):
    """So many drawn wishes with one to six copies in all."""
    source = random.Random(61)
    told = [wishes for wishes in some_wishes(60) if 1 <= sum(wishes[0]) <= 6]
    while len(told) < many:
        things = source.randint(1, 6)
        copies = [source.choice([0, 1, 1, 2, 3, 6]) for thing in range(things)]
        if 1 <= sum(copies) <= 6:
            told.append((copies, [some_list(source, things) for asker in range(source.randint(1, 4))]))
    return told


class Wishes(unittest.TestCase):
    def test_told_ones(self):
        self.assertEqual(singled(WISHES), ([1] * 6, [[[3, 4, 5, 0, 1], [2]], [], [[2], [0, 1]], []]))
        self.assertEqual(singled(([1], [[[0]]])), ([1], [[[0]]]))
        self.assertEqual(singled(([1], [[]])), ([1], [[]]))
        self.assertEqual(singled(([6], [[[0]], []])), ([1] * 6, [[[0, 1, 2, 3, 4, 5]], []]))
        self.assertEqual(singled(([1] * 6, [[[5, 0], [3]]])), ([1] * 6, [[[5, 0], [3]]]))
        self.assertEqual(singled(([0, 0, 1], [[[2], [1], [0]], [[0], [1, 2]]])), ([1], [[[0]], [[0]]]))

    def test_wishes_again(self):
        for wishes in may_be_singled(150):
            told = singled(wishes)
            self.assertIs(type(told), tuple)
            self.assertIsNone(look_at_wishes(told))
            self.assertEqual(told[0], [1] * sum(wishes[0]))
            self.assertEqual(len(told[1]), len(wishes[1]))
            wholes = [thing for thing, many in enumerate(wishes[0]) for time in range(many)]
            for ranks, by_copy in zip(wishes[1], told[1]):
                kept = [[thing for thing in rank for time in range(wishes[0][thing])] for rank in ranks]
                self.assertEqual([[wholes[number] for number in rank] for rank in by_copy], [rank for rank in kept if rank])
                for rank in by_copy:
                    for ahead, behind in zip(rank, rank[1:]):
                        if wholes[ahead] == wholes[behind]:
                            self.assertEqual(ahead + 1, behind)


class Refused(unittest.TestCase):
    def test_no_thing_and_too_many(self):
        for copies in ([0], [0, 0], [0] * 6, [7], [6, 1], [1, 6], [2, 2, 3], [1, 1, 1, 1, 1, 2], [7] * 6, [4, 4]):
            wishes = (copies, [[[0]], []])
            all_refused(self, NoJoin, {}, [(singled, wishes)])
            for dealing in anything() + [[None, None], [0, None]]:
                all_refused(self, NoJoin, {}, [(singled_dealing, wishes, dealing), (whole_dealing, wishes, dealing)])

    def test_at_the_bounds(self):
        for copies in ([1], [6], [0, 1], [1, 0], [1] * 6, [0, 6, 0], [3, 3], [5, 0, 0, 0, 0, 1]):
            wishes = (copies, [[], []])
            self.assertEqual(singled(wishes), ([1] * sum(copies), [[], []]))
            self.assertEqual(singled_dealing(wishes, [None, None]), [None, None])
            self.assertEqual(whole_dealing(wishes, [None, None]), [None, None])

    def test_wishes_ahead_of_all_else(self):
        wishes_ahead(self, [(singled, 0), (singled_dealing, 1), (whole_dealing, 1)])


class Dealings(unittest.TestCase):
    def test_told_ones(self):
        self.assertEqual(singled_dealing(WISHES, [3, None, 2, None]), [3, None, 2, None])
        self.assertEqual(singled_dealing(WISHES, [0, None, 0, None]), [0, None, 1, None])
        self.assertEqual(whole_dealing(WISHES, [5, None, 2, None]), [3, None, 2, None])
        self.assertEqual(whole_dealing(WISHES, [1, None, 0, None]), [0, None, 0, None])

    def test_the_lesser_asker_gets_the_lesser_copy(self):
        wishes = ([1, 3, 2], [[[1, 2]]] * 5)
        self.assertEqual(singled_dealing(wishes, [1, 2, 1, 2, 1]), [1, 4, 2, 5, 3])
        self.assertEqual(whole_dealing(wishes, [3, 5, 2, 4, 1]), [1, 2, 1, 2, 1])

    def test_there_and_back(self):
        for wishes in may_be_singled(120):
            told = singled(wishes)
            for dealing in all_dealings(wishes)[::2]:
                by_copy = singled_dealing(wishes, dealing)
                self.assertIsNone(what_is_wrong(told, by_copy))
                self.assertEqual(whole_dealing(wishes, by_copy), dealing)
                for thing in range(len(wishes[0])):
                    numbers = [copied for copied, got in zip(by_copy, dealing) if got == thing]
                    first = sum(wishes[0][:thing])
                    self.assertEqual(numbers, list(range(first, first + len(numbers))))

    def test_back_from_any(self):
        for wishes in may_be_singled(80):
            for by_copy in all_dealings(singled(wishes))[::5]:
                dealing = whole_dealing(wishes, by_copy)
                self.assertIsNone(what_is_wrong(wishes, dealing))
                self.assertEqual([got is None for got in dealing], [got is None for got in by_copy])


class Together(unittest.TestCase):
    def test_best_counts_go_on_where_no_rank_is_gone(self):
        met = 0
        for wishes in may_be_singled(200):
            told = singled(wishes)
            if [len(ranks) for ranks in told[1]] != [len(ranks) for ranks in wishes[1]]:
                continue
            met += 1
            for order in ("firsts", "full", "lasts"):
                aim = (order, None, [])
                mine, yours = best_dealing(wishes, aim)[0], best_dealing(told, aim)[0]
                self.assertEqual(counts_of(wishes, mine), counts_of(told, yours))
                self.assertEqual(counts_of(told, singled_dealing(wishes, mine)), counts_of(told, yours))
                self.assertEqual(counts_of(wishes, whole_dealing(wishes, yours)), counts_of(wishes, mine))
        self.assertGreater(met, 40)


class Kept(unittest.TestCase):
    def test_nothing_is_changed_or_kept(self):
        for wishes in may_be_singled(60):
            same_each_time(self, singled, copy.deepcopy(wishes))
            dealing = all_dealings(wishes)[-1]
            by_copy = same_each_time(self, singled_dealing, *copy.deepcopy((wishes, dealing)))
            same_each_time(self, whole_dealing, *copy.deepcopy((wishes, by_copy)))


if __name__ == "__main__":
    unittest.main()
