"""The search below best dealings and levels: steps, walks, rounds, the ways of them."""

import unittest

from tests.helper import all_dealings, great_wishes, some_aims, some_wishes
from wishdeal.search import (all_steps, asks_beyond, best_by, gaining_way, longer_walks, round_within, way_round,
                             widest_walks)
from wishdeal.worths import all_worths, worth_of


class Steps(unittest.TestCase):
    def test_steps_of_askers_and_copies(self):
        # Thing 0 has a copy and is dealt, thing 1 has two, of which one is left, thing 2 has none; 3 is nothing.
        wishes = ([1, 2, 0], [[[0], [1]], [[0]], [[1], [2]], []])
        worths = [(0, 0, 9), (0, 1, 4), (1, 0, 8), (2, 1, 7), (2, 2, 3)]
        told = all_steps(wishes, worths, [0, None, 1, None])
        self.assertEqual(sorted(told, key=repr), sorted([
            (0, 3, -9, 0), (0, 1, -5, 0), (3, 0, 8, 1), (1, 3, -7, 2), (1, 2, -4, 2),
            (1, 3, 0, None), (3, 0, 0, None), (3, 1, 0, None), (3, 2, 0, None)], key=repr))

    def test_a_round_in_a_walk(self):
        walk = [(0, 1, 5, 0), (1, 2, 5, 1), (2, 3, 5, 2), (3, 1, 5, 3), (1, 0, 5, 4)]
        self.assertEqual(round_within(walk), walk[1:4])
        self.assertEqual(round_within(walk[:3]), [])
        self.assertEqual(round_within([]), [])
        self.assertEqual(round_within([(0, 1, 5, 0), (1, 1, 5, 1)]), [(1, 1, 5, 1)])

    def test_the_way_of_a_round(self):
        self.assertEqual(way_round(9, [(0, 1, 5, 4), (1, 0, 5, 3)]), [(4, 1), (3, 0)])
        self.assertEqual(way_round(2, [(0, 2, 0, None), (2, 1, 0, None), (1, 0, 5, 3)]), [(3, 0)])
        self.assertEqual(way_round(2, [(0, 2, -1, 6), (2, 1, 4, 5), (1, 0, 5, 3)]), [(5, 1), (3, 0), (6, None)])

    def test_walks_of_most_gain(self):
        steps = [(0, 1, 3, 0), (1, 2, -1, 1), (0, 2, 1, 2)]
        self.assertEqual(widest_walks(3, steps), [(0, []), (3, steps[:1]), (2, steps[:2])])
        self.assertEqual(longer_walks([(0, [])] * 3, steps), [(0, []), (3, steps[:1]), (1, steps[2:])])

    def test_asks(self):
        self.assertEqual(asks_beyond(3, [(0, 0, 9), (0, 1, 8), (1, 0, 2)], [3, 1]), [7, 0, 0])


class Found(unittest.TestCase):
    def test_best_by_any_worths(self):
        for wishes in some_wishes(40):
            worths = [(asker, thing, (asker * 7 + thing * 5) % 11 + 1) for asker, thing, worth
                      in all_worths(wishes, ("full", None, []))]
            table = {(asker, thing): worth for asker, thing, worth in worths}
            sums = [sum(table[pair] for pair in enumerate(dealing) if pair[1] is not None)
                    for dealing in all_dealings(wishes)]
            dealing = best_by(wishes, worths)
            self.assertEqual(sum(table[pair] for pair in enumerate(dealing) if pair[1] is not None), max(sums))

    def test_few_ways_lead_to_a_best_one(self):
        # An answer that came by going through the dealings would need far more of them.
        for wishes in great_wishes():
            for aim in some_aims(wishes):
                worths = all_worths(wishes, aim)
                dealing = [None] * 7
                many = 0
                way = gaining_way(wishes, worths, dealing)
                while way:
                    many += 1
                    for asker, thing in way:
                        dealing[asker] = thing
                    way = gaining_way(wishes, worths, dealing)
                self.assertLess(many, 30)
                self.assertEqual(worth_of(wishes, aim, best_by(wishes, worths)), worth_of(wishes, aim, dealing))


if __name__ == "__main__":
    unittest.main()
