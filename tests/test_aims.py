"""Aims, scores, which dealing is better [10]."""

import copy
import itertools
import unittest

from tests.helper import (BASE, all_dealings, all_refused, anything, edge_wishes, refusal, same_each_time,
                          some_aims, some_wishes, wrong_aims, wrong_wishes)
from wishdeal.aims import is_better, look_at_aim, score_of
from wishdeal.errors import NoAim, NoWishes

WIDE = ([1, 1, 1, 1], [[[0], [1], [2]], [[0], [1], [3]], [[1, 2], [0]]])


class Looking(unittest.TestCase):
    def test_aims_are_let_by(self):
        for order in ("firsts", "full", "lasts"):
            for old in (None, [None] * 4, [0, 1, 2, 0], [2, 2, 2, 2], [None, None, None, 0]):
                for turns in ([], [0], [3], [3, 0], [0, 1, 2, 3], [3, 2, 1, 0]):
                    self.assertIsNone(look_at_aim(BASE, (order, old, turns)))

    def test_aims_of_some_wishes(self):
        for wishes in edge_wishes() + some_wishes(40, 7, 6):
            for aim in some_aims(wishes):
                self.assertIsNone(same_each_time(self, look_at_aim, copy.deepcopy(wishes), copy.deepcopy(aim)))

    def test_what_is_none_is_refused_with_its_part(self):
        for thing, part in wrong_aims():
            ahead = repr(thing)
            all_refused(self, NoAim, {"part": part}, [(look_at_aim, BASE, thing)])
            self.assertEqual(repr(thing), ahead)

    def test_anything_in_any_place(self):
        one = ([1], [[[0]]])
        let_by = [repr((order, old, turns)) for order in ("firsts", "full") for old in (None, [None], [0])
                  for turns in ([], [0])]
        for odd in anything():
            rows = [((odd, None, []), "order"), (("full", odd, []), "old"), (("full", [odd], []), "old"),
                    (("full", None, odd), "turns"), (("full", None, [odd]), "turns")]
            for thing, part in rows:
                told = refusal(look_at_aim, one, thing)
                if repr(thing) in let_by:
                    self.assertIsNone(told, repr(thing))
                else:
                    self.assertIs(type(told), NoAim, repr(thing))
                    self.assertEqual(told.part, part, repr(thing))

    def test_wishes_are_refused_ahead_of_the_aim(self):
        for thing, part, number in wrong_wishes():
            for aim in (("full", None, []), None, (), ("none", 1, 2)):
                calls = [(look_at_aim, thing, aim), (score_of, thing, aim, None), (is_better, thing, aim, None, None)]
                all_refused(self, NoWishes, {"part": part, "number": number}, calls)

    def test_aims_are_refused_ahead_of_what_else_is_handed_in(self):
        for thing, part in wrong_aims():
            for odd in ([None] * 4, None, "a", []):
                calls = [(score_of, BASE, thing, odd), (is_better, BASE, thing, odd, odd)]
                all_refused(self, NoAim, {"part": part}, calls)


class Scores(unittest.TestCase):
    def test_score(self):
        rows = (
            (("full", None, []), [0, 1, 2], ([2, 1, 0, 0], 0, [])),
            (("full", [0, 1, 2], []), [0, 1, 2], ([2, 1, 0, 0], 3, [])),
            (("full", [0, 0, None], [2, 1]), [0, 1, None], ([1, 1, 0, 1], 1, [0, 2])),
            (("lasts", [None, None, None], [0, 1, 2]), [2, None, 0], ([0, 1, 1, 1], 0, [3, 0, 2])),
            (("firsts", [3, 3, 3], [1]), [None, 3, None], ([0, 0, 1, 2], 1, [3])),
        )
        for aim, dealing, wanted in rows:
            told = score_of(WIDE, aim, dealing)
            self.assertEqual(told, wanted, aim)
            self.assertIs(type(told), tuple)
            self.assertEqual([type(part) for part in told], [list, int, list])

    def test_old_none_for_an_asker_counts_in_no_case(self):
        self.assertEqual(score_of(WIDE, ("full", [None, 1, None], []), [None, 1, None])[1], 1)
        self.assertEqual(score_of(WIDE, ("full", [None, None, None], []), [None, None, None])[1], 0)

    def test_old_tells_a_thing_that_is_not_wished_for(self):
        self.assertEqual(score_of(WIDE, ("full", [3, 2, 3], []), [0, 1, 2])[1], 0)
        self.assertEqual(score_of(WIDE, ("full", [3, 1, 3], []), [0, 1, 2])[1], 1)

    def test_where_no_list_has_ranks(self):
        self.assertEqual(score_of(([1], [[], []]), ("full", [0, 0], [1, 0]), [None, None]), ([2], 0, [0, 0]))

    def test_told_lists_are_new(self):
        for aim in some_aims(WIDE):
            same_each_time(self, score_of, copy.deepcopy(WIDE), copy.deepcopy(aim), [0, 1, None])
            same_each_time(self, is_better, copy.deepcopy(WIDE), copy.deepcopy(aim), [0, 1, None], [1, 0, 2])


class Better(unittest.TestCase):
    def beats(self, aim, one, other):
        self.assertIs(is_better(WIDE, aim, one, other), True, (aim, one, other))
        self.assertIs(is_better(WIDE, aim, other, one), False, (aim, one, other))

    def alike(self, aim, one, other):
        self.assertIs(is_better(WIDE, aim, one, other), False, (aim, one, other))
        self.assertIs(is_better(WIDE, aim, other, one), False, (aim, one, other))

    def test_by_counts(self):
        self.beats(("firsts", None, []), [0, None, 1], [1, 3, 0])
        self.beats(("full", None, []), [1, 3, 0], [0, None, 1])
        self.beats(("lasts", None, []), [1, 3, 0], [0, None, 1])
        self.beats(("full", None, []), [0, 3, 2], [1, 3, 2])
        self.beats(("lasts", None, []), [1, 0, 2], [2, 0, 1])

    def test_counts_go_ahead_of_old_and_turns(self):
        self.beats(("full", [1, 3, 0], [1, 2]), [0, 1, 2], [1, 3, 0])
        self.beats(("full", None, [1]), [0, 1, 2], [None, 0, 1])

    def test_by_old(self):
        self.alike(("full", None, []), [0, 1, 2], [1, 0, 2])
        self.beats(("full", [0, None, None], []), [0, 1, 2], [1, 0, 2])
        self.beats(("full", [0, 0, None], [1]), [1, 0, 2], [0, 1, 2])
        self.beats(("full", [0, 1, 3], [1]), [0, 1, 2], [1, 0, 2])

    def test_by_turns(self):
        self.beats(("full", None, [0]), [0, 1, 2], [1, 0, 2])
        self.beats(("full", None, [1]), [1, 0, 2], [0, 1, 2])
        self.beats(("full", None, [2, 1, 0]), [1, 0, 2], [0, 1, 2])
        self.alike(("full", None, [2]), [1, 0, 2], [0, 1, 2])

    def test_something_goes_ahead_of_nothing_by_turns(self):
        self.beats(("firsts", None, [0]), [2, 0, None], [None, 0, None])
        self.beats(("lasts", None, [0]), [0, None, None], [None, 0, None])
        self.beats(("lasts", None, [1]), [None, 0, None], [0, None, None])
        self.beats(("full", None, [2, 0]), [0, None, 1], [0, 1, None])

    def test_a_greater_rank_goes_ahead_of_nothing_by_turns(self):
        # Both give one first and one second; the last rank here is beside nothing at the first turn.
        wishes = ([1, 1, 1], [[[0], [1]], [[1], [2]], [[2], [0]]])
        one, other = [1, None, 2], [None, 1, 0]
        for order in ("firsts", "full", "lasts"):
            self.assertIs(is_better(wishes, (order, None, [0]), one, other), True)
            self.assertIs(is_better(wishes, (order, None, [0]), other, one), False)
            self.assertIs(is_better(wishes, (order, None, [1, 0]), other, one), True)
            self.assertIs(is_better(wishes, (order, None, [1, 0]), one, other), False)

    def test_any_two_dealings(self):
        for wishes in some_wishes(25, 3, 3):
            dealings = all_dealings(wishes)
            for aim in some_aims(wishes):
                scores = [score_of(wishes, aim, dealing) for dealing in dealings]
                for one, other in itertools.product(range(len(dealings)), repeat=2):
                    told = is_better(wishes, aim, dealings[one], dealings[other])
                    self.assertIs(told, better_by_words(aim[0], scores[one], scores[other]))


def better_by_words(order, one, other):
    """Which score is better, by keys of lists."""
    keys = []
    for counts, kept, ranks in (one, other):
        firsts = list(counts)
        by_order = {"firsts": firsts, "full": [-counts[-1]] + firsts, "lasts": [-many for many in reversed(counts)]}
        keys.append((by_order[order], kept, [-rank if rank > 0 else -99 for rank in ranks]))
    return keys[0] > keys[1]


if __name__ == "__main__":
    unittest.main()
