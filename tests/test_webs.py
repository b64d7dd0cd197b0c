"""Webs that are told, and what is told of them [19] [3] (d)."""

import copy
import random
import unittest

from tests.helper import (BASE, aims_ahead, best_ones, edge_wishes, great_wishes, same_each_time, some_aims,
                          some_wishes, together, turned_there_and_back, wishes_ahead)
from wishdeal.dealings import what_is_wrong
from wishdeal.weblook import lets_web
from wishdeal.webs import full, may_get, possible, served, sure, web_of
from wishdeal.wishes import all_wishes


class Told(unittest.TestCase):
    def look_at_web(self, wishes, aim):
        web = web_of(wishes, aim)
        self.assertIs(lets_web(wishes, aim, web), True, (wishes, aim, web))
        paper, dealings = web
        most = len(all_wishes(wishes)) + len(wishes[1]) + len(wishes[0]) + 1
        self.assertLessEqual(len(dealings), most)
        self.assertLess(max([paper[0]] + paper[1] + paper[2]), 10 ** 40)
        for dealing in dealings:
            self.assertIsNone(what_is_wrong(wishes, dealing))
        return web

    def look_at_parts(self, wishes, aim, web, best):
        """What is told of a web beside what going through all best dealings comes to."""
        askers, things = range(len(wishes[1])), range(len(wishes[0]))
        dealt = [{pair for pair in enumerate(dealing) if pair[1] is not None} for dealing in best]
        self.assertEqual(possible(wishes, aim, web), sorted(set.union(*dealt)))
        self.assertEqual(sure(wishes, aim, web), sorted(set.intersection(*dealt)))
        self.assertEqual(served(web), [asker for asker in askers if all(dealing[asker] is not None for dealing in best)])
        left = [min(dealing.count(thing) for dealing in best) < wishes[0][thing] for thing in things]
        self.assertEqual(full(web), [thing for thing in things if not left[thing]])
        for asker in askers:
            got = {dealing[asker] for dealing in best}
            told = may_get(wishes, aim, web, asker)
            self.assertEqual(told, (sorted(got - {None}), None in got))
            self.assertIs(type(told), tuple)
            self.assertIs(type(told[1]), bool)

    def test_beside_all_best_dealings(self):
        source = random.Random(11)
        for wishes in edge_wishes()[:4] + some_wishes(100):
            for aim in some_aims(wishes):
                web = self.look_at_web(wishes, aim)
                best = best_ones(wishes, aim)
                other = turned_there_and_back(source, wishes, aim)
                for one in (web, other, together(web, other), (web[0], best)):
                    self.look_at_parts(wishes, aim, one, best)

    def test_some(self):
        wishes = ([1, 1, 0], [[[0]], [[0], [1]], [], [[0], [2]]])
        web = self.look_at_web(wishes, ("full", None, []))
        self.assertEqual(possible(wishes, ("full", None, []), web), [(0, 0), (1, 1), (3, 0)])
        self.assertEqual(sure(wishes, ("full", None, []), web), [(1, 1)])
        self.assertEqual((served(web), full(web)), ([1], [0, 1, 2]))
        told = [may_get(wishes, ("full", None, []), web, asker) for asker in range(4)]
        self.assertEqual(told, [([0], True), ([1], False), ([], True), ([0], True)])
        web = self.look_at_web(wishes, ("firsts", None, []))
        self.assertEqual(sure(wishes, ("firsts", None, []), web), [(1, 1)])
        aim = ("firsts", [0, None, None, None], [])
        self.assertEqual(sure(wishes, aim, self.look_at_web(wishes, aim)), [(0, 0), (1, 1)])

    def test_things_of_which_a_copy_is_left(self):
        wishes = ([1, 1, 1], [[[0, 1]]])
        web = self.look_at_web(wishes, ("lasts", None, []))
        self.assertEqual((served(web), full(web)), ([0], []))
        self.assertEqual(may_get(wishes, ("lasts", None, []), web, 0), ([0, 1], False))
        wishes = ([1, 1, 1], [[[0, 1]], [[0, 1]]])
        self.assertEqual(full(self.look_at_web(wishes, ("lasts", None, []))), [0, 1])

    def test_greatest_sizes(self):
        for wishes in edge_wishes() + great_wishes():
            for aim in some_aims(wishes):
                web = self.look_at_web(wishes, aim)
                told = [pair for asker in range(len(wishes[1]))
                        for pair in [(asker, thing) for thing in may_get(wishes, aim, web, asker)[0]]]
                self.assertEqual(told, possible(wishes, aim, web))
        self.assertEqual(possible(great_wishes()[0], ("full", None, []), web_of(great_wishes()[0], ("full", None, []))),
                         all_wishes(great_wishes()[0]))

    def test_nothing_is_changed_or_kept(self):
        for wishes in [BASE] + some_wishes(20) + great_wishes()[1:2]:
            for aim in some_aims(wishes)[::2]:
                handed = copy.deepcopy((wishes, aim))
                web = same_each_time(self, web_of, *handed)
                for call in (possible, sure):
                    same_each_time(self, call, *copy.deepcopy((wishes, aim, web)))
                same_each_time(self, may_get, *copy.deepcopy((wishes, aim, web, 0)))
                for call in (served, full):
                    same_each_time(self, call, copy.deepcopy(web))

    def test_lists_are_not_one_another(self):
        for wishes in some_wishes(20):
            (times, asks, prices), dealings = web_of(wishes, ("full", None, []))
            lists = [asks, prices, dealings] + dealings
            self.assertEqual(len({id(part) for part in lists}), len(lists))


class Refused(unittest.TestCase):
    def test_wishes_ahead_of_all_else(self):
        wishes_ahead(self, [(web_of, 1), (possible, 2), (sure, 2), (may_get, 3)])

    def test_then_aims(self):
        aims_ahead(self, [(web_of, 0), (possible, 1), (sure, 1), (may_get, 2)])


if __name__ == "__main__":
    unittest.main()
