"""All best dealings in one list [20] [3] (e), and two orders [21]."""

import copy
import unittest

from tests.helper import (BASE, aims_ahead, all_refused, anything, best_ones, edge_wishes, great_wishes, place_by_place,
                          same_each_time, some_aims, some_wishes, wishes_ahead)
from wishdeal.allbest import all_best, orders_part
from wishdeal.best import bettered
from wishdeal.counting import how_many, number_of, numbered, shares
from wishdeal.dealings import counts_of, what_is_wrong
from wishdeal.errors import NoAim, TooMany
from wishdeal.webs import possible, sure, web_of

ORDERS = ("firsts", "full", "lasts")

JUST_TOLD = [
    (([2, 3, 1, 1, 1], [[[0, 1, 2, 3, 4]], [[0, 1, 4]], [[0, 1, 2, 3, 4]], [[0, 1, 2, 3, 4]], []]), "full"),
    (([1, 3, 2, 3, 2, 2], [[[0, 2, 3, 4, 5]], [[1, 3]], [[0, 3]], [[1, 3, 5]], [[1, 2, 3, 5]]]), "firsts"),
    (([7, 7, 7, 7, 7], [[[0, 1]], [[4, 2, 1, 0, 3]], [[2, 3]], [[1, 4]], [[0, 1, 2, 3, 4]]]), "lasts"),
]
NOT_TOLD = [
    (([1, 1, 2, 3, 1, 2], [[[2, 3, 4, 5]], [[0, 1, 2, 3, 4, 5]], [[0, 1, 2, 3, 4, 5]], [[0, 3]]]), "lasts"),
    (([3, 2, 3, 2, 2, 3], [[[2]], [[3]], [[2, 3, 4]], [[0, 1, 2, 3, 4, 5]], [[2, 3, 4]], [[0, 1, 3, 4, 5]], [[2, 3]]]),
     "full"),
]


class AllBest(unittest.TestCase):
    def test_small(self):
        wishes = ([2, 1, 1], [[[0]], [[0]], [[0]], [[2, 1]]])
        self.assertEqual(all_best(wishes, ("firsts", None, [])), [
            [None, 0, 0, 1], [None, 0, 0, 2], [0, None, 0, 1], [0, None, 0, 2], [0, 0, None, 1], [0, 0, None, 2]])
        self.assertEqual(all_best(wishes, ("firsts", [0, None, 0, 1], [])), [[0, None, 0, 1]])
        self.assertEqual(all_best(wishes, ("lasts", None, [1, 2])), [[None, 0, 0, 1], [None, 0, 0, 2]])
        self.assertEqual(all_best(([0], [[]]), ("full", None, [])), [[None]])
        self.assertEqual(all_best(([0], [[[0]], []]), ("full", [0, 0], [1])), [[None, None]])

    def test_just_the_best_of_all(self):
        for wishes in edge_wishes()[:4] + some_wishes(120):
            for aim in some_aims(wishes):
                told = all_best(wishes, aim)
                self.assertEqual(told, best_ones(wishes, aim), (wishes, aim))
                self.assertIs(type(told), list)
                self.assertTrue(all(type(dealing) is list for dealing in told))

    def test_as_many_as_are_counted_each_at_its_number(self):
        for wishes in some_wishes(40) + great_wishes():
            for aim in some_aims(wishes)[::3]:
                many = how_many(wishes, aim)
                if many > 200:
                    all_refused(self, TooMany, {}, [(all_best, wishes, aim)])
                    continue
                told = all_best(wishes, aim)
                self.assertEqual(len(told), many)
                self.assertEqual(told, sorted(told, key=place_by_place))
                for number, dealing in list(enumerate(told))[::7]:
                    self.assertEqual(number_of(wishes, aim, dealing), number)
                    self.assertEqual(numbered(wishes, aim, number), dealing)

    def test_what_a_web_and_shares_tell(self):
        for wishes in some_wishes(30, 6, 5):
            for aim in some_aims(wishes)[2::4]:
                if how_many(wishes, aim) > 200:
                    continue
                told = all_best(wishes, aim)
                dealt = [{(asker, got) for asker, got in enumerate(dealing) if got is not None} for dealing in told]
                web = web_of(wishes, aim)
                self.assertEqual(possible(wishes, aim, web), sorted(set.union(*dealt)))
                self.assertEqual(sure(wishes, aim, web), sorted(set.intersection(*dealt)))
                for asker in range(len(wishes[1])):
                    got = [dealing[asker] for dealing in told]
                    whats = [what for what in [None] + list(range(len(wishes[0]))) if what in got]
                    self.assertEqual(shares(wishes, aim, asker), [(what, got.count(what)) for what in whats])

    def test_two_hundred_are_told(self):
        for wishes, order in JUST_TOLD:
            aim = (order, None, [])
            self.assertEqual(how_many(wishes, aim), 200)
            self.assertEqual(all_best(wishes, aim), best_ones(wishes, aim))

    def test_one_more_is_refused(self):
        for wishes, order in NOT_TOLD:
            aim = (order, None, [])
            self.assertEqual(how_many(wishes, aim), 201)
            all_refused(self, TooMany, {}, [(all_best, wishes, aim)])

    def test_very_many(self):
        for wishes in (great_wishes()[0], great_wishes()[1], great_wishes()[5]):
            all_refused(self, TooMany, {}, [(all_best, wishes, (order, None, [])) for order in ORDERS])

    def test_very_many_but_few_by_the_aim(self):
        wishes = great_wishes()[0]
        old = [0, 1, 2, 3, 4, 5, 0]
        self.assertEqual(all_best(wishes, ("full", old, [])), [old])
        self.assertEqual(all_best(wishes, ("full", old[:5] + [None, 0], [6])), [old[:5] + [got, 0] for got in range(6)])

    def test_wishes_are_refused_ahead_of_all_else(self):
        wishes_ahead(self, [(all_best, 1), (orders_part, 2)])

    def test_then_aims(self):
        aims_ahead(self, [(all_best, 0)])

    def test_nothing_is_changed_or_kept(self):
        for wishes in [BASE, JUST_TOLD[0][0]] + some_wishes(20):
            for aim in some_aims(wishes)[::3]:
                if how_many(wishes, aim) <= 200:
                    same_each_time(self, all_best, *copy.deepcopy((wishes, aim)))


class TwoOrders(unittest.TestCase):
    def look_at(self, wishes, one, other):
        told = orders_part(wishes, one, other)
        best = [counts_of(wishes, best_ones(wishes, (order, None, []))[0]) for order in (one, other)]
        if best[0] == best[1]:
            self.assertIsNone(told)
            return False
        self.assertIs(type(told), tuple)
        self.assertEqual(len(told), 2)
        for dealing, order, counts in zip(told, (one, other), best):
            self.assertIsNone(what_is_wrong(wishes, dealing))
            self.assertEqual(counts_of(wishes, dealing), counts)
            self.assertEqual(bettered(wishes, (order, None, []), dealing)[0], "best")
        return True

    def test_each_two_part_somewhere(self):
        parted = {}
        for wishes in some_wishes(150) + [([1, 1, 1], [[[0], [1]], [[1], [2]], [[0], [1], [2]]])]:
            for one in ORDERS:
                for other in ORDERS:
                    parted.setdefault((one, other), []).append(self.look_at(wishes, one, other))
        for (one, other), rows in parted.items():
            self.assertIn(False, rows)
            self.assertEqual(True in rows, one != other, (one, other))

    def test_told_ones(self):
        # By `firsts` two get their first and one nothing; by the others all get something.
        wishes = ([1, 1, 1], [[[0], [1]], [[1], [0], [2]], [[0], [1]]])
        for other in ("full", "lasts"):
            mine, yours = orders_part(wishes, "firsts", other)
            self.assertEqual(counts_of(wishes, mine), [2, 0, 0, 1])
            self.assertEqual(counts_of(wishes, yours), [1, 1, 1, 0])
            self.assertEqual(counts_of(wishes, orders_part(wishes, other, "firsts")[0]), [1, 1, 1, 0])
        self.assertIsNone(orders_part(wishes, "full", "lasts"))
        # By `full` two get their first and one its last; by `lasts` none gets its last.
        wishes = ([1, 1, 1], [[[0], [1]], [[1], [2]], [[0], [1], [2]]])
        self.assertIsNone(orders_part(wishes, "firsts", "full"))
        mine, yours = orders_part(wishes, "full", "lasts")
        self.assertEqual((counts_of(wishes, mine), counts_of(wishes, yours)), ([2, 0, 1, 0], [1, 2, 0, 0]))

    def test_nothing_to_deal(self):
        for one in ORDERS:
            for other in ORDERS:
                self.assertIsNone(orders_part(([0], [[]]), one, other))
                self.assertIsNone(orders_part(([0], [[[0]]] * 7), one, other))

    def test_what_is_no_order(self):
        for odd in anything() + ["first", "Full", "lasts ", " full", b"full", ["full"], ("full",), "fullfirsts", "order"]:
            if odd in ORDERS:
                continue
            calls = [(orders_part, BASE, odd, "full"), (orders_part, BASE, "lasts", odd), (orders_part, BASE, odd, odd)]
            all_refused(self, NoAim, {"part": "order"}, calls)

    def test_nothing_is_changed_or_kept(self):
        for wishes in some_wishes(30):
            for one, other in (("firsts", "lasts"), ("full", "firsts"), ("full", "full")):
                same_each_time(self, orders_part, copy.deepcopy(wishes), one, other)


if __name__ == "__main__":
    unittest.main()
