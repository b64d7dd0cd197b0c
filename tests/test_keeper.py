"""Keepers [29] [3] (j)."""

import copy
import random
import unittest

from tests.helper import (BASE, all_refused, anything, best_ones, by_change, edge_wishes, great_wishes, some_changes,
                          some_wishes, spoil, wrong_changes, wrong_wishes)
from wishdeal.best import bettered
from wishdeal.changes import carried
from wishdeal.dealings import counts_of, what_is_wrong
from wishdeal.errors import NoAim, NoChange, NoDeed, NoWishes
from wishdeal.keeper import Keeper
from wishdeal.papers import claim_of, lets_paper
from wishdeal.worths import worth_of

ORDERS = ("firsts", "full", "lasts")


def state(keeper):
    """All that a keeper tells."""
    return copy.deepcopy((keeper.wishes(), keeper.dealing(), keeper.counts(), keeper.paper()))


class Kept(unittest.TestCase):
    """What several tests look at."""

    def look_at(self, keeper, wishes, order):
        self.assertEqual(keeper.wishes(), wishes)
        self.assertIs(type(keeper.wishes()), tuple)
        dealing = keeper.dealing()
        aim = (order, None, [])
        self.assertIsNone(what_is_wrong(wishes, dealing))
        self.assertEqual(bettered(wishes, aim, dealing)[0], "best")
        self.assertEqual(keeper.dealing(), dealing)
        self.assertEqual(keeper.counts(), counts_of(wishes, dealing))
        paper = keeper.paper()
        self.assertIs(lets_paper(wishes, aim, paper), True)
        self.assertEqual((paper[0], claim_of(wishes, paper)), (1, worth_of(wishes, aim, dealing)))
        self.assertLess(max(paper[1] + paper[2]), 10 ** 40)
        self.assertEqual((keeper.dealing(), keeper.wishes()), (dealing, wishes))


class Runs(Kept):
    def test_at_first(self):
        for wishes in edge_wishes() + great_wishes() + some_wishes(30):
            for order in ORDERS:
                keeper = Keeper(copy.deepcopy(wishes), order)
                self.look_at(keeper, wishes, order)
                all_refused(self, NoDeed, {}, [(keeper.undo,)])
                self.look_at(keeper, wishes, order)

    def test_a_small_run(self):
        keeper = Keeper(([1, 1], [[[0], [1]], [[0], [1]]]), "full")
        first = keeper.dealing()
        self.assertIn(first, ([0, 1], [1, 0]))
        other = first.index(1)
        self.assertEqual(keeper.change(("copies", 0, 2)), [other])
        self.assertEqual((keeper.dealing(), keeper.counts()), ([0, 0], [2, 0, 0]))
        self.assertEqual(keeper.change(("go", 0)), [])
        self.assertEqual((keeper.wishes(), keeper.dealing()), (([2, 1], [[[0], [1]]]), [0]))
        self.assertEqual(keeper.change(("come", [[1]])), [])
        self.assertEqual((keeper.dealing(), keeper.counts()), ([0, 1], [2, 0, 0]))
        self.assertIsNone(keeper.undo())
        self.assertEqual(keeper.dealing(), [0])
        self.assertIsNone(keeper.undo())
        self.assertEqual(keeper.dealing(), [0, 0])
        self.assertIsNone(keeper.undo())
        self.assertEqual((keeper.wishes(), keeper.dealing()), (([1, 1], [[[0], [1]], [[0], [1]]]), first))
        all_refused(self, NoDeed, {}, [(keeper.undo,), (keeper.undo,)])

    def test_drawn_runs(self):
        source = random.Random(91)
        for wishes in some_wishes(25) + great_wishes()[2:6]:
            order = source.choice(ORDERS)
            keeper = Keeper(copy.deepcopy(wishes), order)
            past = [state(keeper)]
            for time in range(14):
                now, dealing, counts, paper = past[-1]
                choice = source.random()
                if choice < 0.3:
                    if len(past) == 1:
                        all_refused(self, NoDeed, {}, [(keeper.undo,)])
                    else:
                        self.assertIsNone(keeper.undo())
                        past.pop()
                elif choice < 0.45:
                    odd = source.choice([None, (), ("go", len(now[1])), ("copies", 0, 8), ("list", 0, [[0], [0]]), ("go",),
                                         ("thing", -1), ("come", [[len(now[0])]])])
                    all_refused(self, NoChange, {}, [(keeper.change, odd)])
                else:
                    change = source.choice(some_changes(source, now))
                    moved = keeper.change(copy.deepcopy(change))
                    behind = by_change(now, change)
                    old = carried(now, change, dealing)
                    told = keeper.dealing()
                    self.assertEqual(moved, [asker for asker, had in enumerate(old)
                                             if had is not None and told[asker] != had])
                    self.assertEqual(bettered(behind, (order, old, []), told)[0], "best")
                    if len(behind[1]) < 5:
                        fewest = min(len([had for had, got in zip(old, best) if had is not None and had != got])
                                     for best in best_ones(behind, (order, None, [])))
                        self.assertEqual(len(moved), fewest)
                    past.append((behind, told, None, None))
                self.look_at(keeper, past[-1][0], order)
                self.assertEqual(keeper.dealing(), past[-1][1])

    def test_more_undoings_than_changes(self):
        keeper = Keeper(copy.deepcopy(BASE), "lasts")
        for change in (("copies", 2, 1), ("go", 0), ("thing", 3), ("list", 0, [[3]]), ("come", [[3, 0]])):
            keeper.change(change)
        for time in range(5):
            self.assertIsNone(keeper.undo())
        for time in range(3):
            all_refused(self, NoDeed, {}, [(keeper.undo,)])
            self.look_at(keeper, BASE, "lasts")
        keeper.change(("go", 3))
        keeper.undo()
        all_refused(self, NoDeed, {}, [(keeper.undo,)])

    def test_a_change_that_changes_nothing_is_undone_as_one(self):
        keeper = Keeper(copy.deepcopy(BASE), "firsts")
        first = state(keeper)
        self.assertEqual(keeper.change(("copies", 0, 2)), [])
        self.assertEqual(state(keeper), first)
        keeper.change(("go", 1))
        keeper.undo()
        self.assertEqual(state(keeper), first)
        keeper.undo()
        self.assertEqual(state(keeper), first)
        all_refused(self, NoDeed, {}, [(keeper.undo,)])


class Refused(Kept):
    def test_wishes_then_order(self):
        for thing, part, number in wrong_wishes():
            for order in ("full", "none", None, 0):
                all_refused(self, NoWishes, {"part": part, "number": number}, [(Keeper, thing, order)])
        for odd in anything() + ["first", "Full", b"full", ["full"], ("full", None, [])]:
            if odd not in ORDERS:
                all_refused(self, NoAim, {"part": "order"}, [(Keeper, BASE, odd)])

    def test_what_is_no_change(self):
        keeper = Keeper(copy.deepcopy(BASE), "full")
        first = state(keeper)
        for thing in wrong_changes():
            all_refused(self, NoChange, {}, [(keeper.change, thing)])
        self.assertEqual(state(keeper), first)
        all_refused(self, NoDeed, {}, [(keeper.undo,)])


class OnesOwn(Kept):
    def test_nothing_done_to_lists_changes_a_keeper(self):
        for order in ORDERS:
            handed = copy.deepcopy(BASE)
            keeper = Keeper(handed, order)
            first = state(keeper)
            spoil(handed)
            self.assertEqual(state(keeper), first)
            told = (keeper.wishes(), keeper.dealing(), keeper.counts(), keeper.paper())
            spoil(told)
            self.assertEqual(state(keeper), first)
            change = ("come", [[2, 1], [0]])
            moved = keeper.change(change)
            second = state(keeper)
            spoil(change)
            spoil(moved)
            self.assertEqual(state(keeper), second)
            self.assertEqual(second[0], by_change(BASE, ("come", [[2, 1], [0]])))
            spoil((keeper.wishes(), keeper.dealing(), keeper.counts(), keeper.paper()))
            keeper.undo()
            self.assertEqual(state(keeper), first)

    def test_what_is_told_stays_as_it_was(self):
        keeper = Keeper(copy.deepcopy(BASE), "full")
        told = (keeper.wishes(), keeper.dealing(), keeper.counts(), keeper.paper())
        kept = copy.deepcopy(told)
        moved = keeper.change(("copies", 1, 0))
        kept_moved = list(moved)
        keeper.change(("go", 0))
        keeper.undo()
        keeper.undo()
        self.assertEqual((told, moved), (kept, kept_moved))

    def test_one_keeper_changes_no_other(self):
        wishes = copy.deepcopy(BASE)
        one, other = Keeper(wishes, "full"), Keeper(wishes, "full")
        first = state(other)
        one.change(("copies", 0, 0))
        one.change(("go", 0))
        self.assertEqual(state(other), first)
        all_refused(self, NoDeed, {}, [(other.undo,)])
        other.change(("thing", 1))
        one.undo()
        one.undo()
        self.assertEqual(state(one), first)
        self.assertEqual(len(other.wishes()[0]), 4)

    def test_the_same_run_tells_the_same(self):
        source = random.Random(92)
        for wishes in some_wishes(12):
            one, other = Keeper(copy.deepcopy(wishes), "lasts"), Keeper(copy.deepcopy(wishes), "lasts")
            for time in range(5):
                change = source.choice(some_changes(source, one.wishes()))
                one.paper()
                self.assertEqual(one.change(change), other.change(change))
                self.assertEqual(state(one), state(other))


if __name__ == "__main__":
    unittest.main()
