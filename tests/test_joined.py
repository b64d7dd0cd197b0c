"""Wishes and dealings beside one another [25] [3] (i)."""

import copy
import random
import unittest

from tests.helper import (BASE, all_dealings, all_refused, edge_wishes, same_each_time, some_list, some_wishes,
                          wishes_ahead, wrong_wishes)
from wishdeal.best import best_dealing
from wishdeal.dealings import counts_of, what_is_wrong
from wishdeal.errors import NoJoin, NoWishes
from wishdeal.joined import dealings_beside, wishes_beside
from wishdeal.wishes import look_at_wishes

ORDERS = ("firsts", "full", "lasts")


def counts_together(one, other):
    """Two rows of counts come together: ranks by their numbers, nothing with nothing."""
    size = max(len(one), len(other))
    rows = [row[:-1] + [0] * (size - len(row)) + row[-1:] for row in (one, other)]
    return [sum(row) for row in zip(*rows)]


class Wishes(unittest.TestCase):
    def test_told_ones(self):
        one = ([1, 2], [[[1, 0]], []])
        other = ([3, 0, 4], [[[2, 0], [1]]])
        self.assertEqual(wishes_beside(one, other), ([1, 2, 3, 0, 4], [[[1, 0]], [], [[4, 2], [3]]]))
        self.assertEqual(wishes_beside(other, one), ([3, 0, 4, 1, 2], [[[2, 0], [1]], [[4, 3]], []]))
        self.assertEqual(wishes_beside(one, one), ([1, 2, 1, 2], [[[1, 0]], [], [[3, 2]], []]))

    def test_at_the_bounds_and_beyond(self):
        for things in range(1, 7):
            for askers in range(1, 8):
                for more_things in range(1, 7):
                    for more_askers in range(1, 8):
                        one = ([7] * things, [[[0]]] * askers)
                        other = ([0] * more_things, [[]] * (more_askers - 1) + [[[more_things - 1]]])
                        if things + more_things <= 6 and askers + more_askers <= 7:
                            told = wishes_beside(one, other)
                            self.assertEqual(told[0], [7] * things + [0] * more_things)
                            self.assertEqual(told[1], [[[0]]] * askers + [[]] * (more_askers - 1) +
                                             [[[things + more_things - 1]]])
                        else:
                            all_refused(self, NoJoin, {}, [(wishes_beside, one, other)])

    def test_five_ranks(self):
        ranks = [[4], [3], [2], [1], [0]]
        self.assertEqual(wishes_beside(([1], [[]]), ([1] * 5, [ranks]))[1][1], [[5], [4], [3], [2], [1]])

    def test_both_are_looked_at(self):
        for thing, part, number in wrong_wishes():
            values = {"part": part, "number": number}
            all_refused(self, NoWishes, values, [(wishes_beside, BASE, thing), (wishes_beside, ([1] * 6, [[]]), thing)])
            for other in (([], []), ([1], [None]), None):
                all_refused(self, NoWishes, values, [(wishes_beside, thing, other)])
        wishes_ahead(self, [(wishes_beside, 1), (dealings_beside, 2)])


class Dealings(unittest.TestCase):
    def test_told_ones(self):
        self.assertEqual(dealings_beside(([1, 2], [[[1, 0]], []]), [1, None], [2, None, 0]), [1, None, 4, None, 2])
        self.assertEqual(dealings_beside(([0], [[]]), [None], [None]), [None, None])

    def test_where_the_wishes_would_be_none(self):
        wishes = ([1] * 6, [[[5]]] * 7)
        dealing = [5] + [None] * 6
        all_refused(self, NoJoin, {}, [(wishes_beside, wishes, wishes)])
        self.assertEqual(dealings_beside(wishes, dealing, dealing), dealing + [11] + [None] * 6)

    def test_a_dealing_again(self):
        source = random.Random(51)
        small = some_wishes(60, 3, 3)
        for time in range(200):
            one, other = source.choice(small), source.choice(small)
            mine, yours = source.choice(all_dealings(one)), source.choice(all_dealings(other))
            told = wishes_beside(one, other)
            self.assertIsNone(look_at_wishes(told))
            both = dealings_beside(one, mine, yours)
            self.assertIsNone(what_is_wrong(told, both))
            self.assertEqual(counts_of(told, both), counts_together(counts_of(one, mine), counts_of(other, yours)))


class Together(unittest.TestCase):
    def test_best_counts_come_together(self):
        source = random.Random(52)
        small = some_wishes(60, 3, 3) + edge_wishes()[:2]
        rows = [(source.choice(small), source.choice(small)) for time in range(150)]
        for time in range(30):
            one = ([1, 2, 1], [some_list(source, 3) for asker in range(4)])
            rows.append((one, ([1, 1, 1], [some_list(source, 3) for asker in range(3)])))
        for one, other in rows:
            told = wishes_beside(one, other)
            for order in ORDERS:
                aim = (order, None, [])
                best = [counts_of(wishes, best_dealing(wishes, aim)[0]) for wishes in (one, other, told)]
                self.assertEqual(best[2], counts_together(best[0], best[1]), (one, other, order))


class Kept(unittest.TestCase):
    def test_nothing_is_changed_or_kept(self):
        small = some_wishes(20, 3, 3)
        for one, other in zip(small, small[::-1]):
            same_each_time(self, wishes_beside, *copy.deepcopy((one, other)))
            dealings = (all_dealings(one)[-1], all_dealings(other)[-1])
            same_each_time(self, dealings_beside, *copy.deepcopy((one, *dealings)))

    def test_wishes_beside_themselves(self):
        wishes = ([1], [[[0]]])
        told = wishes_beside(wishes, wishes)
        told[1][0][0].append("spoiled")
        self.assertEqual((told[1][1], wishes), ([[1]], ([1], [[[0]]])))


if __name__ == "__main__":
    unittest.main()
