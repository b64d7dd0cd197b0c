"""Changes of wishes, and dealings carried through them [22]."""

import copy
import random
import unittest

from tests.helper import (BASE, all_dealings, all_refused, by_change, edge_wishes, great_wishes, same_each_time,
                          some_changes, some_wishes, wishes_ahead, wrong_changes)
from wishdeal.changes import carried, changed
from wishdeal.dealings import what_is_wrong
from wishdeal.errors import NoChange
from wishdeal.wishes import look_at_wishes

WISHES = ([1, 2], [[[0], [1]], [[1, 0]], []])


class Changed(unittest.TestCase):
    def test_each_kind(self):
        rows = (
            (("list", 0, [[1]]), ([1, 2], [[[1]], [[1, 0]], []])),
            (("list", 2, [[1], [0]]), ([1, 2], [[[0], [1]], [[1, 0]], [[1], [0]]])),
            (("copies", 1, 0), ([1, 0], [[[0], [1]], [[1, 0]], []])),
            (("copies", 0, 7), ([7, 2], [[[0], [1]], [[1, 0]], []])),
            (("come", [[1, 0]]), ([1, 2], [[[0], [1]], [[1, 0]], [], [[1, 0]]])),
            (("come", []), ([1, 2], [[[0], [1]], [[1, 0]], [], []])),
            (("go", 0), ([1, 2], [[[1, 0]], []])),
            (("go", 1), ([1, 2], [[[0], [1]], []])),
            (("go", 2), ([1, 2], [[[0], [1]], [[1, 0]]])),
            (("thing", 0), ([1, 2, 0], [[[0], [1]], [[1, 0]], []])),
            (("thing", 7), ([1, 2, 7], [[[0], [1]], [[1, 0]], []])),
        )
        for change, told in rows:
            self.assertEqual(changed(WISHES, change), told, change)

    def test_where_nothing_is_otherwise(self):
        for change in (("list", 0, [[0], [1]]), ("list", 1, [[1, 0]]), ("list", 2, []), ("copies", 0, 1), ("copies", 1, 2)):
            self.assertEqual(changed(WISHES, change), WISHES, change)
        self.assertEqual(changed(([1], [[], []]), ("go", 1)), changed(([1], [[], []]), ("go", 0)))

    def test_drawn_ones(self):
        source = random.Random(22)
        for wishes in edge_wishes() + great_wishes() + some_wishes(80):
            for change in some_changes(source, wishes):
                told = changed(wishes, change)
                self.assertEqual(told, by_change(wishes, change))
                self.assertIsNone(look_at_wishes(told))
                self.assertIs(type(told), tuple)

    def test_at_the_edges(self):
        six = ([1] * 6, [[[0], [1], [2], [3], [4]]])
        seven = ([1], [[]] * 7)
        all_refused(self, NoChange, {}, [
            (changed, six, ("thing", 1)), (changed, six, ("thing", 0)), (changed, six, ("go", 0)),
            (changed, six, ("list", 0, [[0], [1], [2], [3], [4], [5]])), (changed, six, ("come", [[5], [4], [3], [2], [1], [0]])),
            (changed, six, ("copies", 5, 8)), (changed, six, ("copies", 6, 1)), (changed, six, ("list", 1, [])),
            (changed, seven, ("come", [])), (changed, seven, ("come", [[0]])), (changed, seven, ("go", 7)),
            (changed, seven, ("list", 7, [])), (changed, ([1], [[]]), ("go", 0)), (changed, ([0], [[[0]]]), ("go", 0)),
        ])
        self.assertEqual(changed(six, ("list", 0, [[5], [4], [3], [2], [1, 0]]))[1], [[[5], [4], [3], [2], [1, 0]]])
        self.assertEqual(changed(six, ("copies", 5, 7))[0], [1, 1, 1, 1, 1, 7])
        self.assertEqual(changed(([1] * 5, [[]]), ("thing", 7)), ([1, 1, 1, 1, 1, 7], [[]]))
        self.assertEqual(changed(([1], [[]] * 6), ("come", [[0]])), ([1], [[], [], [], [], [], [], [[0]]]))
        self.assertEqual(changed(seven, ("go", 6)), ([1], [[]] * 6))
        self.assertEqual(changed(([1], [[], [[0]]]), ("go", 0)), ([1], [[[0]]]))

    def test_a_new_thing_is_wished_for_behind_the_change_alone(self):
        all_refused(self, NoChange, {}, [(changed, WISHES, ("list", 0, [[2]])), (changed, WISHES, ("come", [[0], [2]]))])
        more = changed(WISHES, ("thing", 1))
        self.assertEqual(changed(more, ("list", 0, [[2]])), ([1, 2, 1], [[[2]], [[1, 0]], []]))

    def test_what_is_none(self):
        for thing in wrong_changes():
            all_refused(self, NoChange, {}, [(changed, BASE, thing), (carried, BASE, thing, [None] * 4)])

    def test_wishes_are_refused_ahead_of_all_else(self):
        wishes_ahead(self, [(changed, 1), (carried, 2)])


class Carried(unittest.TestCase):
    def test_each_kind(self):
        dealing = [0, 1, None]
        rows = (
            (("list", 0, [[0]]), [0, 1, None]),
            (("list", 0, [[1]]), [0, 1, None]),
            (("list", 0, []), [0, 1, None]),
            (("copies", 0, 0), [0, 1, None]),
            (("copies", 1, 7), [0, 1, None]),
            (("come", [[0]]), [0, 1, None, None]),
            (("go", 0), [1, None]),
            (("go", 1), [0, None]),
            (("go", 2), [0, 1]),
            (("thing", 3), [0, 1, None]),
        )
        for change, told in rows:
            self.assertEqual(carried(WISHES, change, dealing), told, change)

    def test_perhaps_no_dealing_behind_it(self):
        wishes = changed(WISHES, ("list", 0, [[1]]))
        self.assertEqual(what_is_wrong(wishes, carried(WISHES, ("list", 0, [[1]]), [0, 1, None])), ("wish", 0))
        wishes = changed(WISHES, ("copies", 1, 1))
        self.assertEqual(what_is_wrong(wishes, carried(WISHES, ("copies", 1, 1), [1, 1, None])), ("copies", 1))

    def test_drawn_ones(self):
        source = random.Random(23)
        for wishes in some_wishes(40):
            dealings = all_dealings(wishes)
            for change in some_changes(source, wishes):
                dealing = source.choice(dealings)
                told = carried(wishes, change, dealing)
                expected = list(dealing)
                if change[0] == "go":
                    del expected[change[1]]
                if change[0] == "come":
                    expected.append(None)
                self.assertEqual(told, expected)
                self.assertEqual(len(told), len(changed(wishes, change)[1]))


class Kept(unittest.TestCase):
    def test_nothing_is_changed_or_kept(self):
        source = random.Random(24)
        for wishes in [BASE] + some_wishes(25):
            dealings = all_dealings(wishes)
            for change in some_changes(source, wishes):
                same_each_time(self, changed, *copy.deepcopy((wishes, change)))
                same_each_time(self, carried, *copy.deepcopy((wishes, change, source.choice(dealings))))

    def test_lists_handed_in_twice_are_told_apart(self):
        ranks = [[0]]
        told = changed(([1], [ranks, ranks]), ("come", ranks))
        told[1][0][0].append("spoiled")
        self.assertEqual(told[1][1:], [[[0]], [[0]]])
        self.assertEqual(ranks, [[0]])


if __name__ == "__main__":
    unittest.main()
