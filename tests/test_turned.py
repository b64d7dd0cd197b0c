"""Askers and things called otherwise [24] [3] (i)."""

import copy
import random
import unittest

from tests.helper import (BASE, aims_ahead, all_dealings, all_refused, anything, edge_wishes, great_wishes,
                          same_each_time, some_aims, some_numberings, some_wishes, wishes_ahead)
from wishdeal.aims import look_at_aim, score_of
from wishdeal.best import best_dealing, bettered
from wishdeal.counting import how_many
from wishdeal.dealings import counts_of, what_is_wrong
from wishdeal.errors import NoNumbering
from wishdeal.papers import claim_of, lets_paper
from wishdeal.partings import ways_between
from wishdeal.turned import turned_aim, turned_dealing, turned_paper, turned_way, turned_web, turned_wishes
from wishdeal.ways import done, gain_of, is_way
from wishdeal.weblook import lets_web
from wishdeal.webs import possible, web_of
from wishdeal.wishes import look_at_wishes, rank_of
from wishdeal.worths import worth_of, worth_of_wish

WISHES = ([1, 2, 3], [[[0, 1], [2]], [[2]], []])
ASKERS = [2, 0, 1]
THINGS = [1, 2, 0]


class Told(unittest.TestCase):
    def test_wishes(self):
        self.assertEqual(turned_wishes(WISHES, ASKERS, THINGS), ([3, 1, 2], [[[0]], [], [[1, 2], [0]]]))
        # Within a rank things are told rising, also where nothing is called otherwise.
        wishes = ([1, 1, 1], [[[2, 0, 1]], [[1, 0], [2]]])
        self.assertEqual(turned_wishes(wishes, [0, 1], [0, 1, 2]), ([1, 1, 1], [[[0, 1, 2]], [[0, 1], [2]]]))
        self.assertEqual(turned_wishes(wishes, [1, 0], [2, 1, 0]), ([1, 1, 1], [[[1, 2], [0]], [[0, 1, 2]]]))
        self.assertEqual(turned_wishes(([0], [[]]), [0], [0]), ([0], [[]]))

    def test_aims(self):
        self.assertEqual(turned_aim(WISHES, ("full", None, []), ASKERS, THINGS), ("full", None, []))
        self.assertEqual(turned_aim(WISHES, ("lasts", [0, None, 2], [2, 0]), ASKERS, THINGS),
                         ("lasts", [None, 0, 1], [1, 2]))

    def test_dealings_ways_papers_webs(self):
        self.assertEqual(turned_dealing(WISHES, [0, 2, None], ASKERS, THINGS), [0, None, 1])
        self.assertEqual(turned_way(WISHES, [(0, 2), (1, None)], ASKERS, THINGS), [(2, 0), (0, None)])
        self.assertEqual(turned_paper(WISHES, (3, [5, 6, 7], [8, 9, 10]), ASKERS, THINGS), (3, [6, 7, 5], [10, 8, 9]))
        self.assertEqual(turned_web(WISHES, ((3, [5, 6, 7], [8, 9, 10]), [[0, 2, None], [1, 2, None]]), ASKERS, THINGS),
                         ((3, [6, 7, 5], [10, 8, 9]), [[0, None, 1], [0, None, 2]]))

    def test_as_they_are(self):
        for wishes in some_wishes(30):
            askers, things = list(range(len(wishes[1]))), list(range(len(wishes[0])))
            rising = (wishes[0], [[sorted(rank) for rank in ranks] for ranks in wishes[1]])
            self.assertEqual(turned_wishes(wishes, askers, things), rising)
            for dealing in all_dealings(wishes)[::5]:
                self.assertEqual(turned_dealing(wishes, dealing, askers, things), dealing)
            for aim in some_aims(wishes):
                self.assertEqual(turned_aim(wishes, aim, askers, things), aim)
                dealing, paper = best_dealing(wishes, aim)
                self.assertEqual(turned_paper(wishes, paper, askers, things), paper)
                web = web_of(wishes, aim)
                self.assertEqual(turned_web(wishes, web, askers, things), web)


class StaysOne(unittest.TestCase):
    def test_wishes(self):
        source = random.Random(41)
        for wishes in edge_wishes() + great_wishes() + some_wishes(60):
            for askers, things in some_numberings(source, wishes):
                told = turned_wishes(wishes, askers, things)
                self.assertIsNone(look_at_wishes(told))
                self.assertEqual([told[0][number] for number in things], wishes[0])
                for asker, number in enumerate(askers):
                    self.assertEqual([len(rank) for rank in told[1][number]], [len(rank) for rank in wishes[1][asker]])
                    self.assertTrue(all(rank == sorted(rank) for rank in told[1][number]))
                    for thing, other in enumerate(things):
                        self.assertEqual(rank_of(told, number, other), rank_of(wishes, asker, thing))

    def test_aims_dealings_and_worths(self):
        source = random.Random(42)
        for wishes in edge_wishes()[:3] + some_wishes(30):
            dealings = all_dealings(wishes)[::3]
            for askers, things in some_numberings(source, wishes)[1:]:
                told = turned_wishes(wishes, askers, things)
                for aim in some_aims(wishes)[::3] + some_aims(wishes)[3::4]:
                    turned = turned_aim(wishes, aim, askers, things)
                    self.assertIsNone(look_at_aim(told, turned))
                    for asker, thing in possible(wishes, aim, web_of(wishes, aim)):
                        self.assertEqual(worth_of_wish(told, turned, askers[asker], things[thing]),
                                         worth_of_wish(wishes, aim, asker, thing))
                    for dealing in dealings:
                        other = turned_dealing(wishes, dealing, askers, things)
                        self.assertIsNone(what_is_wrong(told, other))
                        self.assertEqual(worth_of(told, turned, other), worth_of(wishes, aim, dealing))
                        self.assertEqual(score_of(told, turned, other), score_of(wishes, aim, dealing))

    def test_ways_and_gains(self):
        source = random.Random(43)
        for wishes in some_wishes(40):
            dealings = all_dealings(wishes)
            for askers, things in some_numberings(source, wishes)[1:]:
                told = turned_wishes(wishes, askers, things)
                one, other = source.choice(dealings), source.choice(dealings)
                turned = turned_dealing(wishes, one, askers, things)
                for way in ways_between(wishes, one, other):
                    turned_one = turned_way(wishes, way, askers, things)
                    self.assertIs(is_way(told, turned, turned_one), True)
                    behind = turned_dealing(wishes, done(wishes, one, way), askers, things)
                    self.assertEqual(done(told, turned, turned_one), behind)
                    for aim in some_aims(wishes)[::5]:
                        gain = gain_of(wishes, aim, one, way)
                        self.assertEqual(gain_of(told, turned_aim(wishes, aim, askers, things), turned, turned_one), gain)

    def test_papers_claims_webs(self):
        source = random.Random(44)
        for wishes in great_wishes() + some_wishes(30):
            for askers, things in some_numberings(source, wishes)[3:]:
                told = turned_wishes(wishes, askers, things)
                for aim in some_aims(wishes)[::4]:
                    turned = turned_aim(wishes, aim, askers, things)
                    dealing, paper = best_dealing(wishes, aim)
                    other = turned_paper(wishes, paper, askers, things)
                    self.assertIs(lets_paper(told, turned, other), True)
                    self.assertEqual(claim_of(told, other), claim_of(wishes, paper))
                    best = turned_dealing(wishes, dealing, askers, things)
                    self.assertEqual(bettered(told, turned, best)[0], "best")
                    web = turned_web(wishes, web_of(wishes, aim), askers, things)
                    self.assertIs(lets_web(told, turned, web), True)
                    self.assertEqual(how_many(told, turned), how_many(wishes, aim))
                    self.assertEqual(counts_of(told, best_dealing(told, turned)[0]), counts_of(wishes, dealing))

    def test_what_is_none_stays_none(self):
        wishes = ([1, 1], [[[0]], [[0], [1]]])
        told = turned_wishes(wishes, [1, 0], [1, 0])
        aim = ("full", None, [])
        for paper in ((1, [0, 0], [0, 0]), (1, [17, 0], [10, 0])):
            self.assertIs(lets_paper(wishes, aim, paper), False)
            self.assertIs(lets_paper(told, aim, turned_paper(wishes, paper, [1, 0], [1, 0])), False)


def wrong_numberings():
    """Things of any kind that are no numbering of three."""
    told = anything() + [[0, 1], [0, 1, 2, 3], [0, 0, 1], [1, 2, 3], [-1, 0, 1], [0, 1, True], [False, 1, 2]]
    told += [(0, 1, 2), "012", [0, 1, "2"], [0, 1, None], [0, 1, [2]], [[0, 1, 2]], {0: 0, 1: 1, 2: 2}, [2, 2, 2]]
    return told + [[0, 2, 10 ** 59], [0, 1, 2, 2], ["0", "1", "2"], [(0,), (1,), (2,)], [0, 1, {}], b"\x00\x01\x02"]


class Refused(unittest.TestCase):
    def test_what_are_no_numberings(self):
        aim = ("full", None, [])
        paper = (1, [99] * 3, [99] * 3)
        calls = [(turned_wishes,), (turned_aim, aim), (turned_dealing, [None] * 3), (turned_way, [(0, 0)]),
                 (turned_paper, paper), (turned_web, (paper, [[None] * 3]))]
        for odd in wrong_numberings():
            for call, *handed in calls:
                for askers, things in ((odd, [0, 1, 2]), ([0, 1, 2], odd), (odd, odd)):
                    all_refused(self, NoNumbering, {}, [(call, WISHES, *handed, askers, things)])

    def test_the_one_of_the_askers_and_the_one_of_the_things(self):
        wishes = ([1, 1], [[], [], []])
        self.assertEqual(turned_dealing(wishes, [None] * 3, [0, 2, 1], [1, 0]), [None] * 3)
        all_refused(self, NoNumbering, {}, [(turned_dealing, wishes, [None] * 3, [1, 0], [0, 2, 1]),
                                            (turned_wishes, wishes, [1, 0], [1, 0]),
                                            (turned_wishes, wishes, [0, 1, 2], [0, 1, 2])])

    def test_wishes_ahead_of_all_else(self):
        wishes_ahead(self, [(turned_wishes, 2), (turned_aim, 3), (turned_dealing, 3), (turned_way, 3),
                            (turned_paper, 3), (turned_web, 3)])

    def test_then_aims(self):
        aims_ahead(self, [(turned_aim, 2)])

    def test_nothing_is_changed_or_kept(self):
        source = random.Random(45)
        for wishes in [BASE] + some_wishes(12):
            dealings = all_dealings(wishes)
            one, other = source.choice(dealings), source.choice(dealings)
            for askers, things in some_numberings(source, wishes):
                for aim in some_aims(wishes)[::3]:
                    rows = [(turned_wishes,), (turned_aim, aim), (turned_dealing, one), (turned_web, web_of(wishes, aim)),
                            (turned_paper, best_dealing(wishes, aim)[1])]
                    rows += [(turned_way, way) for way in ways_between(wishes, one, other)]
                    for call, *handed in rows:
                        same_each_time(self, call, *copy.deepcopy((wishes, *handed, askers, things)))


if __name__ == "__main__":
    unittest.main()
