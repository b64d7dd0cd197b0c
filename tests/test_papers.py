"""Papers: what is let by, and what it claims [14]; no dealing is worth more than that [3] (b)."""

import copy
import itertools
import random
import unittest

from tests.helper import (BASE, aims_ahead, all_dealings, anything, edge_wishes, same_each_time, some_aims, some_wishes,
                          wishes_ahead)
from wishdeal.papers import claim_of, lets_paper
from wishdeal.worths import all_worths, worth_of

# Two askers and two ranks: B is 3, and a wish of the first rank is worth 9, one of the second 3.
WISHES = ([1, 2], [[[0], [1]], [[0]]])
AIM = ("firsts", None, [])

PAPERS = (
    (1, [9, 9], [0, 0]),
    (1, [0, 0], [9, 3]),
    (1, [3, 0], [9, 0]),
    (1, [2, 1], [8, 1]),
    (1, [0, 10 ** 59], [9, 3]),
    (2, [18, 18], [0, 0]),
    (2, [0, 0], [18, 6]),
    (7, [1, 2], [62, 20]),
    (10 ** 58, [9 * 10 ** 58, 9 * 10 ** 58], [0, 0]),
    (10 ** 58, [0, 1], [9 * 10 ** 58, 3 * 10 ** 58]),
)

NO_PAPERS = (
    (1, [8, 9], [0, 0]),
    (1, [9, 8], [0, 0]),
    (1, [0, 0], [8, 3]),
    (1, [0, 0], [9, 2]),
    (1, [2, 0], [9, 0]),
    (2, [17, 18], [0, 0]),
    (2, [0, 0], [18, 5]),
    (2, [9, 9], [0, 0]),
    (10 ** 58, [9 * 10 ** 58 - 1, 9 * 10 ** 58], [0, 0]),
    (10 ** 58, [0, 0], [9 * 10 ** 58 - 1, 3 * 10 ** 58]),
    (0, [9, 9], [0, 0]),
    (-1, [9, 9], [0, 0]),
    (True, [9, 9], [0, 0]),
    (None, [9, 9], [0, 0]),
    ("1", [9, 9], [0, 0]),
    ([1], [9, 9], [0, 0]),
    (1, [99, 99, 99], [0, 0]),
    (1, [99], [99, 99]),
    (1, [99, 99], [99]),
    (1, [99, 99], [99, 99, 99]),
    (1, [], []),
    (1, [99, 99], []),
    (1, [], [99, 99]),
    (1, [-1, 9], [10, 4]),
    (1, [10, 10], [-1, 0]),
    (1, [10, 10], [0, -1]),
    (1, [True, 9], [9, 9]),
    (1, [9, 9], [False, 0]),
    (1, [9, None], [9, 9]),
    (1, [9, 9], [9, "9"]),
    (1, [[9], 9], [9, 9]),
    (1, [9, 9], [9, (9,)]),
    (1, (9, 9), [0, 0]),
    (1, [9, 9], (0, 0)),
    (1, {0: 9, 1: 9}, [0, 0]),
    (1, "99", [0, 0]),
    (1, [9, 9], "00"),
    (1, None, [9, 9]),
    (1, [9, 9], None),
    (1, 9, 9),
    [1, [9, 9], [0, 0]],
    (1, [9, 9]),
    (1, [9, 9], [0, 0], 0),
    (1, ([9, 9], [0, 0])),
    ((1, [9, 9], [0, 0]),),
    {1: ([9, 9], [0, 0])},
)


class LetBy(unittest.TestCase):
    def test_papers(self):
        for paper in PAPERS:
            self.assertIs(lets_paper(WISHES, AIM, paper), True, paper)

    def test_no_papers(self):
        for thing in NO_PAPERS:
            ahead = repr(thing)
            self.assertIs(lets_paper(WISHES, AIM, thing), False, thing)
            self.assertEqual(repr(thing), ahead)

    def test_anything(self):
        for odd in anything():
            self.assertIs(lets_paper(WISHES, AIM, odd), False, repr(odd))
            for place in range(3):
                paper = [1, [9, 9], [9, 9]]
                paper[place] = odd
                told = repr(odd) == "1" if place == 0 else repr(odd) == "[1, 2]"
                self.assertIs(lets_paper(WISHES, AIM, tuple(paper)), told, repr(paper))
            for place in range(2):
                for part in (1, 2):
                    paper = (1, [9, 9], [9, 9])
                    paper[part][place] = odd
                    told = type(odd) is int and odd >= 0
                    self.assertIs(lets_paper(WISHES, AIM, paper), told, repr(paper))

    def test_it_hangs_on_the_aim(self):
        for paper, told in (((1, [9, 9], [0, 0]), 1), ((1, [36, 36], [0, 0]), 2), ((1, [36, 35], [0, 0]), 1)):
            self.assertEqual([lets_paper(WISHES, (order, None, []), paper) for order in ("firsts", "full")],
                             [told > 0, told > 1])
        self.assertIs(lets_paper(WISHES, ("firsts", [0, 0], []), (1, [10, 10], [0, 0])), True)
        self.assertIs(lets_paper(WISHES, ("firsts", [0, 0], []), (1, [10, 9], [0, 0])), False)
        self.assertIs(lets_paper(WISHES, ("firsts", [0, 0], []), (1, [9, 10], [0, 0])), False)
        self.assertIs(lets_paper(WISHES, ("firsts", None, [1]), (1, [27, 29], [0, 0])), True)
        self.assertIs(lets_paper(WISHES, ("firsts", None, [1]), (1, [27, 28], [0, 0])), False)

    def test_where_there_are_no_wishes(self):
        wishes = ([0, 3], [[], []])
        self.assertIs(lets_paper(wishes, AIM, (1, [0, 0], [0, 0])), True)
        self.assertIs(lets_paper(wishes, AIM, (5, [1, 2], [3, 4])), True)
        self.assertIs(lets_paper(wishes, AIM, (0, [0, 0], [0, 0])), False)

    def test_each_wish_counts(self):
        for wishes in edge_wishes() + some_wishes(40, 5, 5):
            for aim in some_aims(wishes)[::2]:
                for times in (1, 3):
                    asks, prices = [0] * len(wishes[1]), [0] * len(wishes[0])
                    for asker, thing, worth in all_worths(wishes, aim):
                        asks[asker] = max(asks[asker], times * worth)
                    self.assertIs(lets_paper(wishes, aim, (times, asks, prices)), True)
                    for asker in range(len(asks)):
                        if asks[asker] > 0:
                            asks[asker] -= 1
                            self.assertIs(lets_paper(wishes, aim, (times, asks, prices)), False)
                            asks[asker] += 1

    def test_just_those_that_reach_each_wish(self):
        source = random.Random(3)
        for wishes in some_wishes(30, 3, 3):
            for aim in some_aims(wishes)[::3]:
                most = max([worth for asker, thing, worth in all_worths(wishes, aim)] + [1])
                for time in range(6):
                    times = source.randint(1, 2)
                    asks = [source.randint(0, most * times) for asker in wishes[1]]
                    prices = [source.randint(0, most * times) for thing in wishes[0]]
                    reached = all(asks[asker] + prices[thing] >= times * worth
                                  for asker, thing, worth in all_worths(wishes, aim))
                    self.assertIs(lets_paper(wishes, aim, (times, asks, prices)), reached)


class Claims(unittest.TestCase):
    def test_claims(self):
        for paper, claim in zip(PAPERS, (18, 15, 12, 13, 10 ** 59 + 15, 36, 30, 105, 18 * 10 ** 58, 15 * 10 ** 58 + 1)):
            self.assertEqual(claim_of(WISHES, paper), claim)

    def test_each_copy_of_a_thing_and_none_of_one_without(self):
        self.assertEqual(claim_of(([0, 7, 3], [[]]), (4, [5], [1000, 10, 100])), 375)
        self.assertEqual(claim_of(([0], [[]]), (1, [0], [10 ** 59])), 0)
        self.assertEqual(claim_of(([7], [[[0]]]), (1, [0], [10 ** 59])), 7 * 10 ** 59)

    def test_no_dealing_is_worth_more(self):
        source = random.Random(4)
        for wishes in some_wishes(40):
            for aim in some_aims(wishes)[::2]:
                times = source.choice([1, 2, 9])
                prices = [source.randint(0, 90) for thing in wishes[0]]
                asks = [source.randint(0, 9) for asker in wishes[1]]
                for asker, thing, worth in all_worths(wishes, aim):
                    asks[asker] = max(asks[asker], times * worth - prices[thing])
                paper = (times, asks, prices)
                self.assertIs(lets_paper(wishes, aim, paper), True)
                for dealing in all_dealings(wishes):
                    self.assertLessEqual(times * worth_of(wishes, aim, dealing), claim_of(wishes, paper))

    def test_nothing_is_changed_or_kept(self):
        for paper, aim in itertools.product(PAPERS + NO_PAPERS[:5], some_aims(WISHES)[::3]):
            same_each_time(self, lets_paper, copy.deepcopy(WISHES), copy.deepcopy(aim), copy.deepcopy(paper))
            same_each_time(self, claim_of, copy.deepcopy(WISHES), copy.deepcopy(paper))


class Refused(unittest.TestCase):
    def test_wishes_ahead_of_all_else(self):
        wishes_ahead(self, [(lets_paper, 2), (claim_of, 1)])

    def test_then_aims(self):
        aims_ahead(self, [(lets_paper, 1)])
        self.assertIs(lets_paper(BASE, ("full", None, []), None), False)


if __name__ == "__main__":
    unittest.main()
