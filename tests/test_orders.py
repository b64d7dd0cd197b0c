"""Orders, and rows of counts beside one another [9]."""

import itertools
import unittest

from tests.helper import others_than, refusal, same_each_time
from wishdeal.errors import NoAim
from wishdeal.orders import beside_by

BACK = {"better": "worse", "worse": "better", "alike": "alike"}


def rows_of(places, together):
    """All rows of so many counts that come to so much."""
    return [list(row) for row in itertools.product(range(together + 1), repeat=places) if sum(row) == together]


class Beside(unittest.TestCase):
    def test_by_firsts(self):
        rows = (([2, 0, 1], [1, 2, 0], "better"), ([1, 2, 0], [2, 0, 1], "worse"), ([1, 1, 1], [1, 0, 2], "better"),
                ([0, 3, 0], [0, 2, 1], "better"), ([0, 2, 1], [0, 3, 0], "worse"))
        for one, other, told in rows:
            self.assertEqual(beside_by("firsts", one, other), told, (one, other))

    def test_by_full(self):
        rows = (([2, 0, 1], [0, 3, 0], "worse"), ([0, 3, 0], [2, 0, 1], "better"), ([2, 1, 0], [1, 2, 0], "better"),
                ([1, 2, 0], [2, 1, 0], "worse"), ([1, 0, 2, 1], [0, 3, 0, 1], "better"))
        for one, other, told in rows:
            self.assertEqual(beside_by("full", one, other), told, (one, other))

    def test_by_lasts(self):
        rows = (([2, 0, 1], [0, 3, 0], "worse"), ([0, 3, 0, 1], [2, 0, 1, 1], "better"), ([2, 0, 1, 1], [0, 3, 0, 1], "worse"),
                ([2, 1, 0], [1, 2, 0], "better"), ([0, 0, 1], [0, 1, 0], "worse"))
        for one, other, told in rows:
            self.assertEqual(beside_by("lasts", one, other), told, (one, other))

    def test_the_orders_tell_three_things(self):
        one, other = [3, 0, 2, 0], [2, 3, 0, 0]
        self.assertEqual([beside_by(order, one, other) for order in ("firsts", "full", "lasts")],
                         ["better", "better", "worse"])
        one, other = [3, 0, 0, 2], [2, 2, 0, 1]
        self.assertEqual([beside_by(order, one, other) for order in ("firsts", "full", "lasts")],
                         ["better", "worse", "worse"])

    def test_rows_of_one_place(self):
        for order in ("firsts", "full", "lasts"):
            for many in (0, 1, 7):
                self.assertEqual(beside_by(order, [many], [many]), "alike")

    def test_unlike_at_the_last_places_alone(self):
        rows = (("firsts", "better"), ("full", "better"), ("lasts", "better"))
        for order, told in rows:
            self.assertEqual(beside_by(order, [1, 2, 3, 1], [1, 2, 2, 2]), told)
            self.assertEqual(beside_by(order, [1, 2, 2, 2], [1, 2, 3, 1]), BACK[told])

    def test_unlike_at_the_last_place_alone(self):
        # Such rows can't come to as much together; the words of each order are held to all the same.
        for order, told in (("firsts", "worse"), ("full", "better"), ("lasts", "better")):
            self.assertEqual(beside_by(order, [1, 2, 0], [1, 2, 1]), told)
            self.assertEqual(beside_by(order, [1, 2, 1], [1, 2, 0]), BACK[told])

    def test_all_small_rows(self):
        keys = {"firsts": lambda row: row, "full": lambda row: [-row[-1]] + row,
                "lasts": lambda row: [-many for many in reversed(row)]}
        for places, together in ((1, 3), (2, 3), (3, 3), (4, 2), (5, 2)):
            for one, other in itertools.product(rows_of(places, together), repeat=2):
                for order, key in keys.items():
                    told = beside_by(order, one, other)
                    wanted = "alike" if one == other else "better" if key(one) > key(other) else "worse"
                    self.assertEqual(told, wanted, (order, one, other))
                    self.assertEqual(beside_by(order, other, one), BACK[told])

    def test_nothing_is_changed_or_kept(self):
        for order in ("firsts", "full", "lasts"):
            same_each_time(self, beside_by, order, [1, 2, 0], [2, 0, 1])

    def test_what_is_no_order(self):
        odd = others_than(lambda thing: thing == "firsts")
        odd += ["Full", "full ", " full", "last", "first", "orders", ["full"], ("full",), {"full": 1}, b"full"]
        for thing in odd:
            for one, other in (([1], [1]), ([1, 0], [0, 1])):
                told = refusal(beside_by, thing, one, other)
                self.assertIs(type(told), NoAim, repr(thing))
                self.assertEqual(told.part, "order")

    def test_the_order_is_refused_ahead_of_all_else(self):
        told = refusal(beside_by, "none", None, None)
        self.assertIs(type(told), NoAim)


if __name__ == "__main__":
    unittest.main()
