"""What wishes are, ranks, all wishes [5] [6]."""

import copy
import unittest

from tests.helper import BASE, all_refused, anything, edge_wishes, refusal, same_each_time, some_wishes, wrong_wishes
from wishdeal.dealings import copies_left, counts_of, what_is_wrong
from wishdeal.errors import NoWishes
from wishdeal.wishes import all_wishes, copied_wishes, longest, look_at_wishes, rank_of


class Looking(unittest.TestCase):
    def test_wishes_are_let_by(self):
        for wishes in edge_wishes() + some_wishes(200, 7, 6):
            self.assertIsNone(same_each_time(self, look_at_wishes, copy.deepcopy(wishes)))

    def test_one_and_six_things(self):
        for things in range(1, 7):
            self.assertIsNone(look_at_wishes(([1] * things, [[[things - 1]]])))

    def test_none_to_seven_copies(self):
        for many in range(8):
            self.assertIsNone(look_at_wishes(([many, 1], [[[0, 1]]])))

    def test_one_to_seven_askers(self):
        for askers in range(1, 8):
            self.assertIsNone(look_at_wishes(([1], [[[0]]] * askers)))

    def test_none_to_five_ranks(self):
        for ranks in range(6):
            self.assertIsNone(look_at_wishes(([1] * 6, [[[rank] for rank in range(ranks)]])))

    def test_what_is_none_is_refused_with_its_values(self):
        for thing, part, number in wrong_wishes():
            all_refused(self, NoWishes, {"part": part, "number": number}, [(look_at_wishes, thing)])

    def test_anything_in_any_place(self):
        for odd in anything():
            rows = [((odd, [[]]), "copies", None), (([1], odd), "lists", None)]
            rows += [(([1, odd], [[]]), "copies", 1), (([1], [[], odd]), "lists", 1)]
            rows += [(([1], [[], [odd]]), "lists", 1), (([1], [[], [[odd]]]), "lists", 1)]
            for thing, part, number in rows:
                if repr(thing) in LET_BY:
                    self.assertIsNone(look_at_wishes(thing))
                    continue
                told = refusal(look_at_wishes, thing)
                self.assertIs(type(told), NoWishes, repr(thing))
                self.assertEqual(told.part, part, repr(thing))
                if repr(thing) not in WRONG_WITHIN:
                    self.assertEqual(told.number, number, repr(thing))

    def test_what_is_refused_is_unchanged(self):
        for thing, part, number in wrong_wishes():
            ahead = repr(thing)
            refusal(look_at_wishes, thing)
            self.assertEqual(repr(thing), ahead)


# Of the odd things put into each place, these make wishes.
LET_BY = [repr(thing) for thing in (
    ([0], [[]]), ([1, 2], [[]]), ([1, 0], [[]]), ([1, 1], [[]]), ([1, 7], [[]]),
    ([1], [[]]), ([1], [[], []]), ([1], [[[0]]]), ([1], [[], [[0]]]),
)]
# Of these the list itself is so, but a part of it isn't.
WRONG_WITHIN = [repr((odd, [[]])) for odd in anything() if isinstance(odd, list) and odd]
WRONG_WITHIN += [repr(([1], odd)) for odd in anything() if isinstance(odd, list) and odd]


class Ranks(unittest.TestCase):
    def test_rank_of(self):
        wishes = copy.deepcopy(BASE)
        told = [[rank_of(wishes, asker, thing) for thing in range(3)] for asker in range(4)]
        self.assertEqual(told, [[1, 1, 2], [2, 1, 0], [0, 0, 0], [0, 0, 1]])

    def test_rank_of_five_ranks(self):
        wishes = edge_wishes()[3]
        self.assertEqual([rank_of(wishes, 0, thing) for thing in range(6)], [5, 4, 3, 2, 1, 1])

    def test_longest(self):
        self.assertEqual([longest(wishes) for wishes in edge_wishes()], [0, 1, 1, 5, 2, 5])
        self.assertEqual(longest(BASE), 2)

    def test_all_wishes(self):
        self.assertEqual(all_wishes(BASE), [(0, 0), (0, 1), (0, 2), (1, 0), (1, 1), (3, 2)])
        self.assertEqual(all_wishes(([0], [[]])), [])
        self.assertEqual(all_wishes(edge_wishes()[3]), [(0, thing) for thing in range(6)])
        for told in all_wishes(BASE):
            self.assertIs(type(told), tuple)

    def test_all_wishes_are_those_with_a_rank(self):
        for wishes in some_wishes(100, 7, 6):
            pairs = [(asker, thing) for asker in range(len(wishes[1])) for thing in range(len(wishes[0]))]
            self.assertEqual(all_wishes(wishes), [pair for pair in pairs if rank_of(wishes, *pair) > 0])
            ranks = [rank_of(wishes, *pair) for pair in pairs]
            self.assertEqual(longest(wishes), max(ranks))

    def test_nothing_is_changed_or_kept(self):
        for wishes in edge_wishes() + some_wishes(20):
            same_each_time(self, rank_of, copy.deepcopy(wishes), 0, 0)
            same_each_time(self, longest, copy.deepcopy(wishes))
            same_each_time(self, all_wishes, copy.deepcopy(wishes))


class Refused(unittest.TestCase):
    def test_wishes_are_refused_ahead_of_all_else(self):
        for thing, part, number in wrong_wishes():
            for odd in (None, "a", [], 0, -1, 99):
                calls = [(rank_of, thing, odd, odd), (longest, thing), (all_wishes, thing)]
                calls += [(what_is_wrong, thing, odd), (counts_of, thing, odd), (copies_left, thing, odd)]
                all_refused(self, NoWishes, {"part": part, "number": number}, calls)


class Copied(unittest.TestCase):
    def test_the_same_in_new_lists(self):
        for wishes in edge_wishes() + some_wishes(20):
            self.assertEqual(same_each_time(self, copied_wishes, copy.deepcopy(wishes)), wishes)


if __name__ == "__main__":
    unittest.main()
