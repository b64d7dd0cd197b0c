"""Two dealings part into ways [13]."""

import copy
import itertools
import unittest

from tests.helper import (BASE, all_dealings, all_refused, all_ways, edge_wishes, same_each_time, some_aims,
                          some_wishes, wrong_wishes)
from wishdeal.aims import is_better
from wishdeal.errors import NoWishes
from wishdeal.partings import ways_between
from wishdeal.ways import done, gain_of, is_way
from wishdeal.worths import worth_of

EVERY = [[0, 1, 2, 3]]


class Partings(unittest.TestCase):
    def parts(self, wishes, one, other):
        """The ways between two dealings, held to all that is promised of them."""
        ways = ways_between(wishes, one, other)
        self.assertIs(type(ways), list)
        moved = [(asker, thing) for asker, thing in enumerate(other) if one[asker] != thing]
        self.assertEqual(sorted(taking[0] for way in ways for taking in way), [asker for asker, thing in moved])
        for way in ways:
            self.assertIs(is_way(wishes, one, way), True, (wishes, one, other, ways))
            for taking in way:
                self.assertIn(taking, moved)
        orders = itertools.permutations(ways) if len(ways) < 5 else [ways, ways[::-1], ways[1:] + ways[:1]]
        for row in orders:
            at = one
            for way in row:
                self.assertIs(is_way(wishes, at, way), True, (wishes, one, other, row))
                at = done(wishes, at, way)
            self.assertEqual(at, other)
        return ways

    def test_alike(self):
        self.assertEqual(ways_between(BASE, [0, 1, None, None], [0, 1, None, None]), [])
        for wishes in edge_wishes():
            nothing = [None] * len(wishes[1])
            self.assertEqual(ways_between(wishes, nothing, list(nothing)), [])

    def test_one_taking(self):
        self.assertEqual(self.parts(BASE, [None] * 4, [0, None, None, None]), [[(0, 0)]])
        self.assertEqual(self.parts(BASE, [0, None, None, None], [None] * 4), [[(0, None)]])
        self.assertEqual(self.parts(BASE, [0, None, None, None], [1, None, None, None]), [[(0, 1)]])

    def test_a_row_and_a_round(self):
        wishes = ([1, 1, 1, 1], [EVERY] * 4)
        self.assertEqual(self.parts(wishes, [0, 1, 2, None], [1, 2, 3, 0]), [[(3, 0), (0, 1), (1, 2), (2, 3)]])
        self.assertEqual(self.parts(wishes, [0, 1, 2, None], [None, 0, 1, 2]), [[(3, 2), (2, 1), (1, 0), (0, None)]])
        rounds = self.parts(wishes, [0, 1, 2, 3], [1, 2, 3, 0])
        self.assertEqual([sorted(way) for way in rounds], [[(0, 1), (1, 2), (2, 3), (3, 0)]])

    def test_several_ways(self):
        wishes = ([1, 1, 1, 1], [EVERY] * 5)
        ways = self.parts(wishes, [0, 1, 2, 3, None], [1, 0, None, 2, 3])
        self.assertEqual(sorted(sorted(way) for way in ways), [[(0, 1), (1, 0)], [(2, None), (3, 2), (4, 3)]])
        ways = self.parts(wishes, [0, 1, None, None, None], [None, None, 0, 1, 2])
        self.assertEqual(len(ways), 3)

    def test_who_comes_waits_for_who_goes(self):
        self.assertEqual(self.parts(([1], [[[0]], [[0]]]), [0, None], [None, 0]), [[(1, 0), (0, None)]])
        self.assertEqual(len(self.parts(([2], [[[0]]] * 4), [0, 0, None, None], [None, None, 0, 0])), 2)
        self.assertEqual(len(self.parts(([3], [[[0]]] * 4), [0, None, None, None], [None, 0, 0, 0])), 3)

    def test_more_things_than_askers(self):
        wishes = ([1] * 6, [[[5], [4]], [[5, 4]]])
        self.assertEqual(self.parts(wishes, [5, None], [None, 5]), [[(1, 5), (0, None)]])
        self.assertEqual(self.parts(wishes, [5, None], [4, 5]), [[(1, 5), (0, 4)]])
        self.assertEqual([sorted(way) for way in self.parts(wishes, [5, 4], [4, 5])], [[(0, 4), (1, 5)]])

    def test_things_of_several_copies(self):
        wishes = ([3, 2, 2], [[[0, 1, 2]]] * 7)
        dealings = ([0, 0, 0, 1, 1, 2, 2], [1, 1, 2, 2, 0, 0, 0], [2, 2, 1, 0, 0, 0, 1], [None, 0, 1, 0, 2, 1, None],
                    [None] * 7, [0, 1, 2, 0, 1, 2, 0])
        for one, other in itertools.product(dealings, repeat=2):
            self.parts(wishes, one, other)

    def test_any_two_dealings(self):
        for wishes in some_wishes(24, 4, 3) + [([1, 1, 0], [[[0, 1, 2]]] * 4)]:
            dealings = all_dealings(wishes)
            for one in dealings[::3]:
                for other in dealings:
                    self.parts(wishes, one, other)

    def test_gains_together(self):
        for wishes in some_wishes(20, 4, 3):
            dealings = all_dealings(wishes)
            for aim in some_aims(wishes)[::2]:
                for one, other in zip(dealings, dealings[::-1]):
                    gains = [gain_of(wishes, aim, one, way) for way in ways_between(wishes, one, other)]
                    self.assertEqual(sum(gains), worth_of(wishes, aim, other) - worth_of(wishes, aim, one))

    def test_best_just_where_no_way_gains(self):
        for wishes in some_wishes(12, 3, 3):
            dealings = all_dealings(wishes)
            for aim in some_aims(wishes)[::2]:
                for dealing in dealings:
                    gains = [gain_of(wishes, aim, dealing, way) for way in all_ways(wishes, dealing)]
                    beaten = any(is_better(wishes, aim, other, dealing) for other in dealings)
                    self.assertEqual(max(gains, default=0) > 0, beaten)

    def test_nothing_is_changed_or_kept(self):
        for one, other in (([0, 1, None, None], [1, 0, None, None]), ([None] * 4, [0, 0, None, None])):
            same_each_time(self, ways_between, copy.deepcopy(BASE), list(one), list(other))

    def test_wishes_are_refused_ahead_of_all_else(self):
        for thing, part, number in wrong_wishes():
            for odd in (None, "a", [0, 1, None, None]):
                all_refused(self, NoWishes, {"part": part, "number": number}, [(ways_between, thing, odd, odd)])


if __name__ == "__main__":
    unittest.main()
