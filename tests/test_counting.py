"""How many best dealings there are, their numbers, and the askers' shares [20] [3] (e)."""

import copy
import itertools
import unittest

from tests.helper import (BASE, aims_ahead, all_dealings, all_refused, anything, best_ones, edge_wishes, great_wishes,
                          place_by_place, same_each_time, some_aims, some_wishes, wishes_ahead)
from wishdeal.best import best_dealing
from wishdeal.counting import how_many, number_of, numbered, shares
from wishdeal.dealings import what_is_wrong
from wishdeal.errors import NoPlace
from wishdeal.worths import worth_of

# Two of three get a copy of thing 0; the last one may have thing 1 or thing 2.
WISHES = ([2, 1, 1], [[[0]], [[0]], [[0]], [[2, 1]]])
AIM = ("firsts", None, [])
BEST = [
    [None, 0, 0, 1], [None, 0, 0, 2], [0, None, 0, 1], [0, None, 0, 2], [0, 0, None, 1], [0, 0, None, 2],
]


class Small(unittest.TestCase):
    def test_numbers_there_and_back(self):
        self.assertEqual(how_many(WISHES, AIM), 6)
        self.assertEqual([numbered(WISHES, AIM, number) for number in range(6)], BEST)
        self.assertEqual([number_of(WISHES, AIM, dealing) for dealing in BEST], list(range(6)))

    def test_shares(self):
        for asker in range(3):
            self.assertEqual(shares(WISHES, AIM, asker), [(None, 2), (0, 4)])
        self.assertEqual(shares(WISHES, AIM, 3), [(1, 3), (2, 3)])
        self.assertEqual(shares(([1], [[[0]], []]), AIM, 0), [(0, 1)])
        self.assertEqual(shares(([1], [[[0]], []]), AIM, 1), [(None, 1)])

    def test_one_alone(self):
        for wishes, dealing in ((([0], [[]]), [None]), (([0], [[[0]]]), [None]), (([7], [[[0]]]), [0])):
            for aim in some_aims(wishes):
                self.assertEqual(how_many(wishes, aim), 1)
                self.assertEqual(numbered(wishes, aim, 0), dealing)
                self.assertEqual(number_of(wishes, aim, dealing), 0)
                self.assertEqual(shares(wishes, aim, 0), [(dealing[0], 1)])

    def test_beside_all_best_dealings(self):
        for wishes in edge_wishes()[:4] + some_wishes(70):
            dealings = all_dealings(wishes)
            for aim in some_aims(wishes)[::2]:
                best = best_ones(wishes, aim)
                self.assertEqual(how_many(wishes, aim), len(best))
                for number, dealing in list(enumerate(best))[:6] + list(enumerate(best))[-2:]:
                    self.assertEqual(numbered(wishes, aim, number), dealing)
                    self.assertEqual(number_of(wishes, aim, dealing), number)
                for dealing in dealings[::5]:
                    told = best.index(dealing) if dealing in best else None
                    self.assertEqual(number_of(wishes, aim, dealing), told)
                all_refused(self, NoPlace, {}, [(numbered, wishes, aim, len(best)), (numbered, wishes, aim, -1)])

    def test_shares_beside_all_best_dealings(self):
        for wishes in edge_wishes()[:4] + some_wishes(70):
            for aim in some_aims(wishes)[::2]:
                best = best_ones(wishes, aim)
                for asker in range(len(wishes[1])):
                    got = [dealing[asker] for dealing in best]
                    whats = [what for what in [None] + list(range(len(wishes[0]))) if what in got]
                    told = shares(wishes, aim, asker)
                    self.assertEqual(told, [(what, got.count(what)) for what in whats])
                    self.assertTrue(type(told) is list and all(type(row) is tuple for row in told))


class Great(unittest.TestCase):
    def test_how_many(self):
        told = [how_many(wishes, ("full", None, [])) for wishes in great_wishes()]
        # All that is liked alike; six of seven askers in any order; five unlike things and two alike; two for each.
        self.assertEqual(told[0], 6 ** 7)
        self.assertEqual(told[1], 5040)
        self.assertEqual(told[5], 2520)
        self.assertEqual(told[7], 2 ** 7)
        self.assertEqual(told[2:5], [1, 2, 2])

    def test_numbers(self):
        for wishes in great_wishes():
            for aim in some_aims(wishes)[::2]:
                many = how_many(wishes, aim)
                best = worth_of(wishes, aim, best_dealing(wishes, aim)[0])
                numbers = sorted({0, many // 7, many // 3, many // 2, many - many // 5 - 1, many - 1})
                told = [numbered(wishes, aim, number) for number in numbers]
                self.assertEqual(told, sorted(told, key=place_by_place))
                for number, dealing in zip(numbers, told):
                    self.assertIsNone(what_is_wrong(wishes, dealing))
                    self.assertEqual(worth_of(wishes, aim, dealing), best)
                    self.assertEqual(number_of(wishes, aim, dealing), number)
                all_refused(self, NoPlace, {}, [(numbered, wishes, aim, many), (numbered, wishes, aim, many + 10 ** 50)])

    def test_all_alike_are_counted_like_figures(self):
        wishes = great_wishes()[0]
        for number in (0, 1, 5, 6, 1000, 6 ** 7 - 1):
            figures = [number // 6 ** (6 - place) % 6 for place in range(7)]
            self.assertEqual(numbered(wishes, AIM, number), figures)
            self.assertEqual(number_of(wishes, AIM, figures), number)

    def test_in_any_order(self):
        wishes = great_wishes()[1]
        rows = itertools.permutations([None, 0, 1, 2, 3, 4, 5])
        for number, row in list(enumerate(rows))[::500]:
            self.assertEqual(numbered(wishes, AIM, number), list(row))
            self.assertEqual(number_of(wishes, AIM, list(row)), number)
        for asker in range(7):
            self.assertEqual(shares(wishes, AIM, asker), [(what, 720) for what in [None, 0, 1, 2, 3, 4, 5]])

    def test_shares_come_together(self):
        for wishes in great_wishes():
            for aim in some_aims(wishes)[::3]:
                many = how_many(wishes, aim)
                for asker in range(7):
                    told = shares(wishes, aim, asker)
                    self.assertEqual(sum(row[1] for row in told), many)
                    self.assertTrue(all(row[1] > 0 for row in told))


class OfAnything(unittest.TestCase):
    def test_no_best_dealing_has_no_number(self):
        for odd in anything():
            for thing in (odd, [odd] * 4, BEST[0][:3] + [odd], [odd] + BEST[0][1:]):
                told = BEST.index(thing) if repr(thing) in [repr(dealing) for dealing in BEST] else None
                self.assertEqual(number_of(WISHES, AIM, thing), told, repr(thing))
        for thing in ([None] * 4, [0, None, None, 1], [0, 0, 0, 1], [0, 0, 1, 1], [0, 0, None, None], [0, 0, None],
                      [0, 0, None, 1, None], (0, 0, None, 1), [0, 0, None, True], [False, 0, None, 1], BEST,
                      [0, 0, None, 3], [0, 0, None, -1], {0: 0, 1: 0, 2: None, 3: 1}):
            self.assertIsNone(number_of(WISHES, AIM, thing), repr(thing))

    def test_no_number_has_no_dealing(self):
        for odd in anything() + [-6, 6, 10 ** 60 - 1, [0], (1,), "1", b"1"]:
            if not (type(odd) is int and 0 <= odd < 6):
                all_refused(self, NoPlace, {}, [(numbered, WISHES, AIM, odd)])

    def test_wishes_are_refused_ahead_of_all_else(self):
        wishes_ahead(self, [(how_many, 1), (numbered, 2), (number_of, 2), (shares, 2)])

    def test_then_aims(self):
        aims_ahead(self, [(how_many, 0), (numbered, 1), (number_of, 1), (shares, 1)])


class Kept(unittest.TestCase):
    def test_nothing_is_changed_or_kept(self):
        for wishes in [BASE, WISHES] + some_wishes(12):
            for aim in some_aims(wishes)[::3]:
                same_each_time(self, how_many, *copy.deepcopy((wishes, aim)))
                dealing = same_each_time(self, numbered, *copy.deepcopy((wishes, aim, 0)))
                self.assertEqual(same_each_time(self, number_of, *copy.deepcopy((wishes, aim, dealing))), 0)
                same_each_time(self, shares, *copy.deepcopy((wishes, aim, 0)))


if __name__ == "__main__":
    unittest.main()
