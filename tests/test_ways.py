"""Ways: what is one, one that is done, its gain [12]."""

import copy
import itertools
import unittest

from tests.helper import (BASE, all_dealings, all_refused, all_ways, anything, refusal, same_each_time, some_aims,
                          some_wishes, wrong_aims, wrong_wishes)
from wishdeal.dealings import what_is_wrong
from wishdeal.errors import NoAim, NoWay, NoWishes
from wishdeal.ways import done, gain_of, is_way
from wishdeal.worths import worth_of

# Asker 0 has thing 0, asker 1 thing 1, asker 2 thing 2, asker 3 nothing; of thing 3 a copy is left, thing 4 has none.
WISHES = ([1, 1, 1, 1, 0], [[[0], [1], [3, 4]], [[2], [1, 0]], [[3], [0], [2]], [[2, 0]]])
DEALING = [0, 1, 2, None]

WAYS = (
    ([(0, 3)], [3, 1, 2, None]),
    ([(0, None)], [None, 1, 2, None]),
    ([(2, 3)], [0, 1, 3, None]),
    ([(0, 1), (1, None)], [1, None, 2, None]),
    ([(0, 1), (1, 0)], [1, 0, 2, None]),
    ([(1, 0), (0, 1)], [1, 0, 2, None]),
    ([(3, 2), (2, 3)], [0, 1, 3, 2]),
    ([(3, 2), (2, None)], [0, 1, None, 2]),
    ([(0, 1), (1, 2), (2, 0)], [1, 2, 0, None]),
    ([(3, 0), (0, 1), (1, 2), (2, 3)], [1, 2, 3, 0]),
    ([(3, 0), (0, 1), (1, 2), (2, None)], [1, 2, None, 0]),
)

NO_WAYS = (
    [], [(0, 0)], [(3, None)], [(0, 1)], [(1, 0)], [(3, 2)], [(0, 4)], [(0, 2)], [(3, 3)], [(1, 3)],
    [(0, None), (3, 2)], [(0, None), (3, 2), (2, 3)], [(0, 3), (2, None)], [(0, 3), (1, None)],
    [(0, 1), (2, 3)], [(0, 1), (2, 0)], [(0, 1), (1, 2)], [(1, 2), (2, 0)], [(0, 1), (1, 1)],
    [(0, 1), (1, 0), (0, 3)], [(0, 3), (0, 3)], [(0, 1), (1, 2), (2, 2)], [(0, None), (0, 3)],
    [(4, 0)], [(-1, 2)], [(-4, 3)], [(0, 5)], [(0, -2)], [(0, 10 ** 59)], [(10 ** 59, 3)],
    [(False, 3)], [(True, None)], [(0, True), (1, None)], [(0, True), (1, False)], [(1, False), (0, True)],
    [[0, 3]], ((0, 3),), [(0,)], [(0, 3, 3)], [()], [None], [3], ["ab"], [{0: 3}], {0: 3}, {(0, 3): 1}, (0, 3),
    [(0, "3")], [("0", 3)], [(None, 3)], [(0, [3])], [([0], 3)], [(0, (3,))], [(0, {})], [({}, 3)],
    [(0, 3), None], [(0, 1), [1, 0]], [None, (0, 3)], [[(0, 3)]],
)


class Ways(unittest.TestCase):
    def test_ways(self):
        for way, behind in WAYS:
            self.assertIs(is_way(WISHES, DEALING, way), True, way)
            self.assertEqual(done(WISHES, DEALING, way), behind, way)

    def test_no_ways(self):
        for thing in NO_WAYS:
            ahead = repr(thing)
            self.assertIs(is_way(WISHES, DEALING, thing), False, repr(thing))
            told = refusal(done, WISHES, DEALING, thing)
            self.assertIs(type(told), NoWay, repr(thing))
            self.assertEqual(repr(thing), ahead)

    def test_anything(self):
        ways = [repr(way) for way in ([(0, 3)], [(0, 1), (1, None)], [(0, 1), (1, 0)])]
        for odd in anything():
            for thing in (odd, [odd], [(odd, 3)], [(0, 1), (1, odd)], [(0, 1), odd]):
                if repr(thing) not in ways:
                    self.assertIs(is_way(WISHES, DEALING, thing), False, repr(thing))
                    self.assertIs(type(refusal(done, WISHES, DEALING, thing)), NoWay, repr(thing))

    def test_an_end_at_a_copy_that_is_left(self):
        for copies, told in ((1, False), (2, True), (3, True)):
            self.assertIs(is_way(([copies], [[[0]], [[0]]]), [0, None], [(1, 0)]), told)

    def test_an_end_at_the_first_one_s_own_thing_of_several_copies(self):
        wishes = ([2, 1], [[[0], [1]], [[0], [1]], [[0, 1]]])
        for way in ([(0, 1), (2, 0)], [(2, 0), (0, 1)], [(1, 1), (2, 0)]):
            self.assertIs(is_way(wishes, [0, 0, 1], way), True, way)
        self.assertIs(is_way(wishes, [0, 0, 1], [(0, 1), (2, 0), (1, None)]), True)

    def test_all_ways_of_small_wishes(self):
        for wishes in some_wishes(16, 3, 3):
            for dealing in all_dealings(wishes)[::2]:
                ways = all_ways(wishes, dealing)
                for way in ways:
                    self.assertIs(is_way(wishes, dealing, way), True, (wishes, dealing, way))
                takings = list(itertools.product(range(len(wishes[1])), [None] + list(range(len(wishes[0])))))
                for size in (1, 2):
                    for row in itertools.product(takings, repeat=size):
                        told = is_way(wishes, dealing, list(row))
                        self.assertIs(told, list(row) in ways, (wishes, dealing, row))


class Done(unittest.TestCase):
    def test_done_is_a_dealing_and_the_way_back_leads_back(self):
        for wishes in some_wishes(14, 3, 3):
            for dealing in all_dealings(wishes):
                for way in all_ways(wishes, dealing):
                    behind = done(wishes, dealing, way)
                    self.assertIsNone(what_is_wrong(wishes, behind))
                    taken = dict(way)
                    self.assertEqual(behind, [taken.get(asker, had) for asker, had in enumerate(dealing)])
                    back = [(asker, dealing[asker]) for asker, thing in reversed(way)]
                    self.assertIs(is_way(wishes, behind, back), True)
                    self.assertEqual(done(wishes, behind, back), dealing)
                    for aim in some_aims(wishes)[::3]:
                        gain = gain_of(wishes, aim, dealing, way)
                        self.assertEqual(gain, worth_of(wishes, aim, behind) - worth_of(wishes, aim, dealing))
                        self.assertEqual(gain_of(wishes, aim, behind, back), -gain)

    def test_gain(self):
        # Four askers and three ranks: B is 5, R is 3.
        rows = (([(0, 3)], "firsts", 1 - 25), ([(0, None)], "firsts", -25), ([(2, 3)], "firsts", 25 - 1),
                ([(1, 2), (2, 3)], "firsts", 25 - 5 + 25 - 1), ([(3, 2), (2, 3)], "full", 150 + 150 - 126),
                ([(3, 2), (2, None)], "lasts", 124 - 100))
        for way, order, gain in rows:
            self.assertEqual(gain_of(WISHES, (order, None, []), DEALING, way), gain * 5, way)
        self.assertEqual(gain_of(WISHES, ("firsts", DEALING, [2]), DEALING, [(2, 3)]), ((25 - 1) * 5 - 1) * 4 + 3 - 1)

    def test_nothing_is_changed_or_kept(self):
        for way, behind in WAYS:
            same_each_time(self, is_way, copy.deepcopy(WISHES), list(DEALING), list(way))
            same_each_time(self, done, copy.deepcopy(WISHES), list(DEALING), list(way))
            same_each_time(self, gain_of, copy.deepcopy(WISHES), ("full", list(DEALING), [1]), list(DEALING), list(way))


class Refused(unittest.TestCase):
    def test_wishes_are_refused_ahead_of_all_else(self):
        for thing, part, number in wrong_wishes():
            for odd in (None, "a", [], [(0, 3)], ("none", 1, 2)):
                calls = [(is_way, thing, odd, odd), (done, thing, odd, odd), (gain_of, thing, odd, odd, odd)]
                all_refused(self, NoWishes, {"part": part, "number": number}, calls)

    def test_aims_are_refused_ahead_of_what_else_is_handed_in(self):
        for thing, part in wrong_aims():
            for dealing, way in (([None] * 4, [(0, 0)]), ([None] * 4, None), (None, None), ("a", [])):
                all_refused(self, NoAim, {"part": part}, [(gain_of, BASE, thing, dealing, way)])


if __name__ == "__main__":
    unittest.main()
