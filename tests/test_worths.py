"""Worths of wishes and of dealings [11]."""

import copy
import itertools
import unittest

from tests.helper import (BASE, all_dealings, all_refused, edge_wishes, same_each_time, some_aims, some_wishes,
                          wrong_aims, wrong_wishes)
from wishdeal.aims import is_better, score_of
from wishdeal.errors import NoAim, NoWishes
from wishdeal.wishes import all_wishes, longest, rank_of
from wishdeal.worths import all_worths, worth_of, worth_of_wish


def written_out(wishes, aim, asker, thing):
    """The sum that the document writes out."""
    order, old, turns = aim
    B = len(wishes[1]) + 1
    R = longest(wishes)
    i = rank_of(wishes, asker, thing)
    w = {"firsts": B ** (R - i), "full": B ** (R - i) + B ** R, "lasts": B ** R - B ** (i - 1)}[order]
    k = 1 if old is not None and old[asker] == thing else 0
    n = len(turns)
    t = 0
    if asker in turns:
        t = (R + 1 - i) * (R + 1) ** (n - 1 - turns.index(asker))
    return (w * B + k) * (R + 1) ** n + t


class OfWishes(unittest.TestCase):
    def test_by_each_order(self):
        # Four askers and two ranks: B is 5, R is 2.
        for order, first, second in (("firsts", 5, 1), ("full", 30, 26), ("lasts", 24, 20)):
            aim = (order, None, [])
            self.assertEqual(worth_of_wish(BASE, aim, 0, 0), first * 5)
            self.assertEqual(worth_of_wish(BASE, aim, 0, 2), second * 5)
            self.assertEqual(worth_of_wish(BASE, aim, 1, 0), second * 5)

    def test_by_old(self):
        aim = ("firsts", [1, 2, None, 2], [])
        self.assertEqual(worth_of_wish(BASE, aim, 0, 1), 26)
        self.assertEqual(worth_of_wish(BASE, aim, 0, 0), 25)
        self.assertEqual(worth_of_wish(BASE, aim, 1, 1), 25)
        self.assertEqual(worth_of_wish(BASE, aim, 3, 2), 26)

    def test_by_turns(self):
        aim = ("firsts", [1, None, None, None], [1, 0])
        self.assertEqual(worth_of_wish(BASE, aim, 0, 1), 26 * 9 + 2)
        self.assertEqual(worth_of_wish(BASE, aim, 0, 2), 5 * 9 + 1)
        self.assertEqual(worth_of_wish(BASE, aim, 1, 1), 25 * 9 + 2 * 3)
        self.assertEqual(worth_of_wish(BASE, aim, 1, 0), 5 * 9 + 1 * 3)
        self.assertEqual(worth_of_wish(BASE, aim, 3, 2), 25 * 9)

    def test_the_sum_written_out(self):
        for wishes in edge_wishes() + some_wishes(60, 7, 6):
            for aim in some_aims(wishes):
                pairs = all_wishes(wishes)
                told = all_worths(wishes, aim)
                self.assertEqual(told, [pair + (written_out(wishes, aim, *pair),) for pair in pairs])
                self.assertEqual([worth_of_wish(wishes, aim, *pair) for pair in pairs], [row[2] for row in told])
                for row in told:
                    self.assertIs(type(row), tuple)

    def test_no_wishes_no_worths(self):
        self.assertEqual(all_worths(([1], [[]]), ("full", None, [0])), [])
        self.assertEqual(worth_of(([1], [[]]), ("full", [0], [0]), [None]), 0)

    def test_nothing_is_changed_or_kept(self):
        for aim in some_aims(BASE):
            same_each_time(self, worth_of_wish, copy.deepcopy(BASE), copy.deepcopy(aim), 0, 2)
            same_each_time(self, all_worths, copy.deepcopy(BASE), copy.deepcopy(aim))
            same_each_time(self, worth_of, copy.deepcopy(BASE), copy.deepcopy(aim), [0, 1, None, None])


class OfDealings(unittest.TestCase):
    def test_together(self):
        aim = ("firsts", None, [])
        self.assertEqual(worth_of(BASE, aim, [None] * 4), 0)
        self.assertEqual(worth_of(BASE, aim, [0, 1, None, None]), 50)
        self.assertEqual(worth_of(BASE, aim, [1, 0, None, None]), 30)
        self.assertEqual(worth_of(BASE, ("full", [None, 0, None, None], [1]), [1, 0, None, None]), (150 + 131) * 3 + 1)

    def test_what_its_wishes_are_together(self):
        for wishes in some_wishes(20):
            for aim in some_aims(wishes):
                worths = {(asker, thing): worth for asker, thing, worth in all_worths(wishes, aim)}
                for dealing in all_dealings(wishes)[::3]:
                    got = [(asker, thing) for asker, thing in enumerate(dealing) if thing is not None]
                    self.assertEqual(worth_of(wishes, aim, dealing), sum(worths[pair] for pair in got))

    def test_better_just_where_worth_more(self):
        for wishes in some_wishes(30, 3, 3) + [([1, 1, 1], [[[0], [1]], [[1], [2]], [[2], [0]]])]:
            dealings = all_dealings(wishes)
            for aim in some_aims(wishes):
                worths = [worth_of(wishes, aim, dealing) for dealing in dealings]
                scores = [score_of(wishes, aim, dealing) for dealing in dealings]
                for one, other in itertools.product(range(len(dealings)), repeat=2):
                    told = is_better(wishes, aim, dealings[one], dealings[other])
                    self.assertEqual(told, worths[one] > worths[other])
                    self.assertEqual(scores[one] == scores[other], worths[one] == worths[other])

    def test_better_just_where_worth_more_for_seven_askers(self):
        wishes = ([2, 1, 3, 1], [[[0], [1], [2]], [[0, 2]], [[1], [0]], [[3], [2], [0], [1]], [[2]], [], [[3, 0]]])
        dealings = all_dealings(wishes)[::41]
        for aim in some_aims(wishes):
            for one, other in zip(dealings, dealings[1:] + dealings[:1]):
                more = worth_of(wishes, aim, one) - worth_of(wishes, aim, other)
                self.assertEqual(is_better(wishes, aim, one, other), more > 0)
                self.assertEqual(score_of(wishes, aim, one) == score_of(wishes, aim, other), more == 0)


class Refused(unittest.TestCase):
    def test_wishes_are_refused_ahead_of_the_aim(self):
        for thing, part, number in wrong_wishes():
            for aim in (("full", None, []), None, ("none", 1, 2)):
                for odd in (None, "a", -1):
                    calls = [(worth_of_wish, thing, aim, odd, odd), (all_worths, thing, aim), (worth_of, thing, aim, odd)]
                    all_refused(self, NoWishes, {"part": part, "number": number}, calls)

    def test_aims_are_refused_ahead_of_what_else_is_handed_in(self):
        for thing, part in wrong_aims():
            for odd in (None, "a", -1):
                calls = [(worth_of_wish, BASE, thing, odd, odd), (all_worths, BASE, thing), (worth_of, BASE, thing, odd)]
                all_refused(self, NoAim, {"part": part}, calls)


if __name__ == "__main__":
    unittest.main()
