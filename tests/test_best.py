"""Best dealings and bettered ones [15] [16], and what they come to [3] (a), (b), (c), (h), [13]."""

import copy
import random
import unittest

from tests.helper import (BASE, aims_ahead, all_dealings, all_ways, edge_wishes, great_wishes, same_each_time,
                          some_aims, some_wishes, wishes_ahead)
from wishdeal.aims import is_better, score_of
from wishdeal.best import best_dealing, bettered
from wishdeal.dealings import counts_of, ranks_got, what_is_wrong
from wishdeal.papers import claim_of, lets_paper
from wishdeal.ways import done, gain_of, is_way
from wishdeal.worths import worth_of


class Told(unittest.TestCase):
    """What several tests look at."""

    def look_at_paper(self, wishes, aim, paper, dealing):
        self.assertIs(type(paper), tuple)
        self.assertIs(lets_paper(wishes, aim, paper), True)
        self.assertEqual(paper[0], 1)
        self.assertEqual(claim_of(wishes, paper), worth_of(wishes, aim, dealing))
        self.assertLess(max(paper[1] + paper[2]), 10 ** 40)

    def look_at_best(self, wishes, aim):
        told = best_dealing(wishes, aim)
        self.assertIs(type(told), tuple)
        dealing, paper = told
        self.assertIsNone(what_is_wrong(wishes, dealing))
        self.look_at_paper(wishes, aim, paper, dealing)
        self.assertEqual(bettered(wishes, aim, dealing)[0], "best")
        return dealing

    def look_at_bettered(self, wishes, aim, dealing):
        """Whether the dealing is told to be best."""
        told = bettered(wishes, aim, dealing)
        self.assertIs(type(told), tuple)
        word, shown = told
        self.assertIn(word, ("way", "best"))
        if word == "best":
            self.look_at_paper(wishes, aim, shown, dealing)
            return True
        self.assertIs(is_way(wishes, dealing, shown), True, (wishes, dealing, shown))
        self.assertGreater(gain_of(wishes, aim, dealing, shown), 0)
        self.assertIs(is_better(wishes, aim, done(wishes, dealing, shown), dealing), True)
        return False


class Best(Told):
    def test_by_each_order(self):
        # The one copy of thing 0 is the first of both; only asker 1 has a second, asker 2 has a third.
        wishes = ([1, 1, 1], [[[0]], [[0], [1]], [[1], [0], [2]]])
        self.assertEqual(best_dealing(wishes, ("firsts", None, [1]))[0], [None, 0, 1])
        self.assertEqual(best_dealing(wishes, ("firsts", None, [0]))[0], [0, None, 1])
        self.assertEqual(best_dealing(wishes, ("firsts", None, []))[0][2], 1)
        self.assertEqual(best_dealing(wishes, ("full", None, []))[0], [0, 1, 2])
        self.assertEqual(best_dealing(wishes, ("lasts", None, []))[0], [0, 1, 2])

    def test_the_orders_part(self):
        # Of each row: what `firsts`, what `full` and what `lasts` count best.
        rows = (
            ([1, 1, 1], [[[0], [2]], [[1], [0], [2]], [[1], [2]]], [2, 1, 0, 0], [2, 1, 0, 0], [2, 1, 0, 0]),
            ([1, 1, 1], [[[0], [1]], [[1], [0], [2]], [[0], [1]]], [2, 0, 0, 1], [1, 1, 1, 0], [1, 1, 1, 0]),
            ([1, 1, 1], [[[0], [1]], [[1], [2]], [[0], [1], [2]]], [2, 0, 1, 0], [2, 0, 1, 0], [1, 2, 0, 0]),
            ([1, 1, 0], [[[0], [1], [2]], [[1], [0]], [[2], [0], [1]]], [2, 0, 0, 1], [2, 0, 0, 1], [2, 0, 0, 1]),
        )
        for copies, lists, *told in rows:
            wishes = (copies, lists)
            for order, counts in zip(("firsts", "full", "lasts"), told):
                self.assertEqual(counts_of(wishes, self.look_at_best(wishes, (order, None, []))), counts, order)

    def test_old_and_turns(self):
        wishes = ([1, 1], [[[0, 1]], [[0, 1]]])
        self.assertEqual(best_dealing(wishes, ("full", [0, None], []))[0], [0, 1])
        self.assertEqual(best_dealing(wishes, ("full", [1, None], []))[0], [1, 0])
        self.assertEqual(best_dealing(wishes, ("full", [1, 0], []))[0], [1, 0])
        wishes = ([1, 1], [[[0], [1]], [[0], [1]]])
        for order in ("firsts", "full", "lasts"):
            self.assertEqual(best_dealing(wishes, (order, None, [0]))[0], [0, 1])
            self.assertEqual(best_dealing(wishes, (order, None, [1]))[0], [1, 0])
            self.assertEqual(best_dealing(wishes, (order, None, [1, 0]))[0], [1, 0])
            self.assertEqual(best_dealing(wishes, (order, [0, None], [1, 0]))[0], [0, 1])

    def test_where_there_is_nothing_to_deal(self):
        self.assertEqual(best_dealing(([0], [[]]), ("full", None, [])), ([None], (1, [0], [0])))
        self.assertEqual(best_dealing(([0], [[[0]]]), ("full", [0], [0]))[0], [None])
        self.assertEqual(best_dealing(([3, 3], [[], []]), ("firsts", None, [])), ([None, None], (1, [0, 0], [0, 0])))

    def test_none_is_better(self):
        for wishes in edge_wishes()[:3] + some_wishes(70):
            dealings = all_dealings(wishes)
            for aim in some_aims(wishes):
                dealing = self.look_at_best(wishes, aim)
                self.assertIn(dealing, dealings)
                for other in dealings:
                    self.assertIs(is_better(wishes, aim, other, dealing), False, (wishes, aim, dealing, other))

    def test_none_is_no_worse_for_all_and_better_for_one(self):
        for wishes in some_wishes(40):
            dealings = all_dealings(wishes)
            rows = [[rank or 9 for rank in ranks_got(wishes, dealing)] for dealing in dealings]
            for aim in some_aims(wishes)[::2]:
                best = [rank or 9 for rank in ranks_got(wishes, best_dealing(wishes, aim)[0])]
                for row in rows:
                    self.assertFalse(row != best and all(mine <= yours for mine, yours in zip(row, best)))

    def test_greatest_sizes(self):
        source = random.Random(5)
        for wishes in edge_wishes() + great_wishes():
            for aim in some_aims(wishes):
                dealing = self.look_at_best(wishes, aim)
                score = score_of(wishes, aim, dealing)
                for time in range(3):
                    other = random_dealing(source, wishes)
                    self.look_at_bettered(wishes, aim, other)
                    self.assertIs(is_better(wishes, aim, other, dealing), False, score)

    def test_nothing_is_changed_or_kept(self):
        for wishes in [BASE] + great_wishes()[3:5]:
            for aim in some_aims(wishes):
                same_each_time(self, best_dealing, copy.deepcopy(wishes), copy.deepcopy(aim))


def random_dealing(source, wishes):
    """A dealing of wishes drawn by a source of numbers."""
    left = list(wishes[0])
    told = []
    for ranks in wishes[1]:
        things = [thing for rank in ranks for thing in rank if left[thing] > 0]
        told.append(source.choice([None] + things))
        if told[-1] is not None:
            left[told[-1]] -= 1
    return told


class Bettered(Told):
    def test_ways(self):
        wishes = ([1, 1], [[[0], [1]], [[0], [1]]])
        self.assertEqual(bettered(wishes, ("full", None, [0]), [1, 0]), ("way", [(0, 0), (1, 1)]))
        self.assertEqual(bettered(([1], [[[0]], []]), ("full", None, []), [None, None]), ("way", [(0, 0)]))
        wishes = ([1, 1], [[[0]], [[0], [1]]])
        self.assertEqual(bettered(wishes, ("full", None, []), [None, 0]), ("way", [(0, 0), (1, 1)]))
        self.assertEqual(bettered(wishes, ("firsts", None, [0]), [None, 0])[0], "way")
        self.assertEqual(bettered(wishes, ("full", None, []), [0, 1])[0], "best")

    def test_a_way_that_gives_up(self):
        wishes = ([1], [[[0]], [[0]]])
        self.assertEqual(bettered(wishes, ("full", [0, None], []), [None, 0]), ("way", [(0, 0), (1, None)]))
        self.assertEqual(bettered(wishes, ("full", None, []), [None, 0])[0], "best")
        self.assertEqual(bettered(wishes, ("full", None, []), [0, None])[0], "best")

    def test_a_way_of_one_that_had_something(self):
        wishes = ([1, 1], [[[0], [1]]])
        self.assertEqual(bettered(wishes, ("lasts", None, []), [1]), ("way", [(0, 0)]))
        self.assertEqual(bettered(wishes, ("lasts", [1], [0]), [0])[0], "best")

    def test_rounds_within_all_copies(self):
        wishes = ([1] * 6, [[[asker], [(asker + 1) % 6]] for asker in range(6)] + [[]])
        worst = [1, 2, 3, 4, 5, 0, None]
        for aim in some_aims(wishes):
            self.assertIs(self.look_at_bettered(wishes, aim, worst), False)
            self.assertEqual(len(bettered(wishes, aim, worst)[1]), 6)
            self.assertIs(self.look_at_bettered(wishes, aim, [0, 1, 2, 3, 4, 5, None]), True)

    def test_long_rows(self):
        wishes = ([1] * 6, [[[0]]] + [[[asker - 1], [asker]] for asker in range(1, 6)] + [[]])
        for order, best in (("firsts", True), ("full", False), ("lasts", False)):
            dealing = [None, 0, 1, 2, 3, 4, None]
            self.assertIs(self.look_at_bettered(wishes, (order, None, []), dealing), best)

    def test_each_dealing(self):
        for wishes in edge_wishes()[:3] + some_wishes(50):
            dealings = all_dealings(wishes)
            for aim in some_aims(wishes):
                most = max([worth_of(wishes, aim, dealing) for dealing in dealings])
                for dealing in dealings[::2]:
                    best = worth_of(wishes, aim, dealing) == most
                    self.assertIs(self.look_at_bettered(wishes, aim, dealing), best, (wishes, aim, dealing))

    def test_best_just_where_no_way_gains(self):
        for wishes in some_wishes(14, 3, 3):
            for dealing in all_dealings(wishes):
                ways = all_ways(wishes, dealing)
                for aim in some_aims(wishes)[::2]:
                    gains = any(gain_of(wishes, aim, dealing, way) > 0 for way in ways)
                    self.assertEqual(bettered(wishes, aim, dealing)[0], "way" if gains else "best")

    def test_step_by_step_to_a_best_one(self):
        source = random.Random(6)
        for wishes in great_wishes():
            for aim in some_aims(wishes):
                dealing = random_dealing(source, wishes)
                word, shown = bettered(wishes, aim, dealing)
                while word == "way":
                    dealing = done(wishes, dealing, shown)
                    word, shown = bettered(wishes, aim, dealing)
                self.assertEqual(worth_of(wishes, aim, dealing), worth_of(wishes, aim, best_dealing(wishes, aim)[0]))

    def test_nothing_is_changed_or_kept(self):
        for aim in some_aims(BASE):
            for dealing in all_dealings(BASE):
                same_each_time(self, bettered, copy.deepcopy(BASE), copy.deepcopy(aim), dealing)


class Refused(unittest.TestCase):
    def test_wishes_ahead_of_all_else(self):
        wishes_ahead(self, [(best_dealing, 1), (bettered, 2)])

    def test_then_aims(self):
        aims_ahead(self, [(best_dealing, 0), (bettered, 1)])


if __name__ == "__main__":
    unittest.main()
