"""Dealings mended behind a change [23] [3] (g)."""

import copy
import random
import unittest

from tests.helper import (BASE, all_dealings, all_refused, anything, best_ones, by_change, great_wishes,
                          same_each_time, some_changes, some_wishes, wishes_ahead, wrong_changes)
from wishdeal.aims import is_better
from wishdeal.best import best_dealing, bettered
from wishdeal.changes import carried
from wishdeal.dealings import what_is_wrong
from wishdeal.errors import NoAim, NoChange
from wishdeal.mends import mended
from wishdeal.papers import claim_of, lets_paper
from wishdeal.partings import ways_between
from wishdeal.ways import gain_of
from wishdeal.worths import worth_of

ORDERS = ("firsts", "full", "lasts")


def moved_from(old, dealing):
    """The askers that have a thing in the one and another one, or nothing, in the other."""
    return [asker for asker in range(len(old)) if old[asker] is not None and dealing[asker] != old[asker]]


class Mended(unittest.TestCase):
    def look_at(self, wishes, change, order, dealing):
        told = mended(wishes, change, order, dealing)
        self.assertIs(type(told), tuple)
        now, best, moved, paper = told
        self.assertEqual(now, by_change(wishes, change))
        old = carried(wishes, change, dealing)
        aim = (order, old, [])
        self.assertIsNone(what_is_wrong(now, best))
        self.assertEqual(bettered(now, aim, best)[0], "best")
        self.assertEqual(bettered(now, (order, None, []), best)[0], "best")
        self.assertEqual(moved, moved_from(old, best))
        self.assertIs(lets_paper(now, aim, paper), True)
        self.assertEqual(paper[0], 1)
        self.assertEqual(claim_of(now, paper), worth_of(now, aim, best))
        self.assertLess(max(paper[1] + paper[2]), 10 ** 40)
        return (now, old, best, moved)

    def test_told_ones(self):
        wishes = ([1, 1], [[[0], [1]], [[0], [1]]])
        for order in ORDERS:
            # A copy more of what both like best: the other one moves to it, the first one stays.
            now, best, moved, paper = mended(wishes, ("copies", 0, 2), order, [0, 1])
            self.assertEqual((now, best, moved), (([2, 1], wishes[1]), [0, 0], [1]))
            now, best, moved, paper = mended(wishes, ("copies", 0, 1), order, [1, 0])
            self.assertEqual((now, best, moved), (wishes, [1, 0], []))
            now, best, moved, paper = mended(wishes, ("go", 0), order, [0, 1])
            self.assertEqual((best, moved), ([0], [0]))
            now, best, moved, paper = mended(wishes, ("go", 1), order, [0, 1])
            self.assertEqual((best, moved), ([0], []))
            now, best, moved, paper = mended(wishes, ("come", [[1]]), order, [0, 1])
            self.assertEqual((best, moved), ([0, None, 1], [1]))
            now, best, moved, paper = mended(wishes, ("list", 0, []), order, [0, 1])
            self.assertEqual((best, moved), ([None, 0], [0, 1]))
            now, best, moved, paper = mended(wishes, ("thing", 5), order, [0, 1])
            self.assertEqual((best, moved), ([0, 1], []))

    def test_who_had_nothing_is_not_moved(self):
        now, best, moved, paper = mended(([0], [[[0]], [[0]]]), ("copies", 0, 2), "full", [None, None])
        self.assertEqual((best, moved), ([0, 0], []))
        now, best, moved, paper = mended(([2], [[[0]], [[0]]]), ("copies", 0, 0), "full", [0, 0])
        self.assertEqual((best, moved), ([None, None], [0, 1]))

    def test_over_many_small_wishes(self):
        source = random.Random(31)
        for wishes in some_wishes(60):
            dealings = all_dealings(wishes)
            for change in some_changes(source, wishes):
                for order in ORDERS:
                    now, old, best, moved = self.look_at(wishes, change, order, source.choice(dealings))
                    by_order = best_ones(now, (order, None, []))
                    self.assertIn(best, by_order)
                    self.assertEqual(len(moved), min(len(moved_from(old, other)) for other in by_order))
                    for other in by_order[:20]:
                        self.assertIs(is_better(now, (order, old, []), other, best), False)

    def test_of_best_dealings(self):
        source = random.Random(32)
        for wishes in some_wishes(40):
            for order in ORDERS:
                dealing = source.choice(best_ones(wishes, (order, None, [])))
                for change in some_changes(source, wishes):
                    now, old, best, moved = self.look_at(wishes, change, order, dealing)
                    if now == wishes:
                        self.assertEqual((best, moved), (dealing, []))

    def test_greatest_sizes(self):
        source = random.Random(33)
        for wishes in great_wishes():
            for order in ORDERS:
                dealing = best_dealing(wishes, (order, None, []))[0]
                for change in source.sample(some_changes(source, wishes), 12):
                    self.look_at(wishes, change, order, dealing)


def one_apart(wishes):
    """Changes by one copy, or of a list that is emptied, or put in the stead of an empty one."""
    source = random.Random(34)
    told = []
    for thing, many in enumerate(wishes[0]):
        told += [("copies", thing, number) for number in (many - 1, many + 1) if 0 <= number <= 7]
    for asker, ranks in enumerate(wishes[1]):
        things = source.sample(range(len(wishes[0])), len(wishes[0]))
        told.append(("list", asker, [] if ranks else [[thing] for thing in things[:5]]))
    return told


def ahead_of_the_ways(now, old):
    """The carried dealing, in which who can't have what it had has nothing."""
    told = list(old)
    wrong = what_is_wrong(now, told)
    if wrong is not None and wrong[0] == "wish":
        told[wrong[1]] = None
    if wrong is not None and wrong[0] == "copies":
        told[max(asker for asker, got in enumerate(told) if got == wrong[1])] = None
    return told


class OneWay(unittest.TestCase):
    def test_at_most_one_way_gains(self):
        gained = 0
        for wishes in some_wishes(60) + great_wishes():
            for order in ORDERS:
                dealing = best_dealing(wishes, (order, None, []))[0]
                for change in one_apart(wishes):
                    now, best, moved, paper = mended(wishes, change, order, dealing)
                    ahead = ahead_of_the_ways(now, carried(wishes, change, dealing))
                    self.assertIsNone(what_is_wrong(now, ahead))
                    gains = [gain_of(now, (order, None, []), ahead, way) for way in ways_between(now, ahead, best)]
                    self.assertLessEqual(len([gain for gain in gains if gain > 0]), 1)
                    gained += len([gain for gain in gains if gain > 0])
        self.assertGreater(gained, 100)


class Refused(unittest.TestCase):
    def test_wishes_ahead_of_all_else(self):
        wishes_ahead(self, [(mended, 3)])

    def test_then_orders(self):
        for odd in anything() + ["first", "Full", b"full", ["full"], ("full", None, [])]:
            for change in (("go", 0), ("go", 9), None, (), ("list", 0, None)):
                all_refused(self, NoAim, {"part": "order"}, [(mended, BASE, change, odd, [None] * 4)]
                            if odd not in ORDERS else [])

    def test_then_changes(self):
        for thing in wrong_changes():
            all_refused(self, NoChange, {}, [(mended, BASE, thing, "lasts", [None] * 4)])

    def test_nothing_is_changed_or_kept(self):
        source = random.Random(35)
        for wishes in [BASE] + some_wishes(15):
            dealings = all_dealings(wishes)
            for change in some_changes(source, wishes):
                handed = copy.deepcopy((wishes, change, source.choice(ORDERS), source.choice(dealings)))
                same_each_time(self, mended, *handed)


if __name__ == "__main__":
    unittest.main()
