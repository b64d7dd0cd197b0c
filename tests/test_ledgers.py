"""Ledgers that are told, ledgers that are let by and things that aren't [20a] [3] (e)."""

import copy
import itertools
import random
import unittest

from tests.helper import (BASE, aims_ahead, anything, best_ones, edge_wishes, great_wishes, same_each_time, some_aims,
                          some_wishes, tight_by_words, together, turned_there_and_back, wishes_ahead)
from wishdeal.ledgers import ledger_of, lets_ledger, told_by
from wishdeal.webs import web_of

# One copy of thing 0, of which two may get it; thing 1 has two copies, of which one is left.
WISHES = ([1, 2], [[[0]], [[0]], [[1]]])
AIM = ("full", None, [])
WEB = web_of(WISHES, AIM)
LEDGER = [
    [((1, 2), 2)],
    [((0, 2), 1), ((1, 2), 1)],
    [((0, 2), 1), ((1, 2), 0)],
    [((0, 1), 1), ((1, 1), 0)],
]
MORE = [
    [((1, 2), 2)],
    [((0, 0), 0), ((0, 2), 1), ((1, 2), 1), ((2, 2), 0)],
    [((0, 0), 0), ((0, 2), 1), ((1, 2), 0), ((2, 2), 0), ((10 ** 59, 1), 0)],
    [((0, 0), 1), ((0, 1), 1), ((0, 9), 1), ((1, 1), 0), ((2, 1), 0), ((7, 7), 0), ((10 ** 59, 0), 0)],
]


def changed(ledger, row, place, entry):
    """The ledger with one tuple changed."""
    told = copy.deepcopy(ledger)
    told[row][place] = entry
    return told


def many_from(wishes, aim, web, asker, left):
    """A tuple's many, by the words of the document, without any list behind."""
    times, asks, prices = web[0]
    if asker == len(wishes[1]):
        return 0 if any(many > 0 and price > 0 for many, price in zip(left, prices)) else 1
    told = many_from(wishes, aim, web, asker + 1, left) if asks[asker] == 0 else 0
    for who, thing in tight_by_words(wishes, aim, web[0]):
        if who == asker and left[thing] > 0:
            behind = tuple(many - (number == thing) for number, many in enumerate(left))
            told += many_from(wishes, aim, web, asker + 1, behind)
    return told


def whole_ledger(wishes, aim, web, beyond):
    """A ledger of all lefts up to the copies and some beyond."""
    lefts = sorted(itertools.product(*[range(many + beyond + 1) for many in wishes[0]]))
    rows = [[(left, many_from(wishes, aim, web, asker, left)) for left in lefts]
            for asker in range(1, len(wishes[1]) + 1)]
    return [[(tuple(wishes[0]), many_from(wishes, aim, web, 0, tuple(wishes[0])))]] + rows


class LetBy(unittest.TestCase):
    def test_told_and_let_by(self):
        self.assertEqual(ledger_of(WISHES, AIM, WEB), LEDGER)
        self.assertIs(lets_ledger(WISHES, AIM, WEB, LEDGER), True)
        self.assertEqual(told_by(LEDGER), 2)

    def test_more_lefts_than_are_led_to(self):
        self.assertIs(lets_ledger(WISHES, AIM, WEB, MORE), True)
        self.assertEqual(told_by(MORE), 2)
        for row, place in ((3, 2), (3, 5)):
            fewer = copy.deepcopy(MORE)
            del fewer[row][place]
            self.assertIs(lets_ledger(WISHES, AIM, WEB, fewer), True)

    def test_what_is_led_to_must_stand_there(self):
        for row, place in ((1, 0), (1, 1), (2, 0), (2, 1), (3, 0), (3, 1)):
            fewer = copy.deepcopy(LEDGER)
            del fewer[row][place]
            self.assertIs(lets_ledger(WISHES, AIM, WEB, fewer), False)
        for row, place in ((1, 1), (1, 2), (2, 0), (2, 3), (3, 4), (3, 6)):
            fewer = copy.deepcopy(MORE)
            del fewer[row][place]
            self.assertIs(lets_ledger(WISHES, AIM, WEB, fewer), False, (row, place))

    def test_numbers_changed(self):
        for ledger in (LEDGER, MORE):
            for row, place in [(row, place) for row in range(4) for place in range(len(ledger[row]))]:
                left, many = ledger[row][place]
                for other in (many + 1, many - 1, many + 10 ** 59, True, False, None, str(many), [many], (many,), ()):
                    thing = changed(ledger, row, place, (left, other))
                    self.assertIs(lets_ledger(WISHES, AIM, WEB, thing), False, repr(thing))

    def test_lefts_changed(self):
        for row, place in [(row, place) for row in range(4) for place in range(len(LEDGER[row]))]:
            (one, two), many = LEDGER[row][place]
            others = [(one + 1, two), (one, two + 1), (one - 1, two), (one, two - 1), (one, two, 0), (one,), (),
                      [one, two], (one, None), (one, str(two)), (str(one), two), (bool(one), two), (one, (two,)), one,
                      None, {one: two}, (one, [two])]
            for other in others:
                thing = changed(LEDGER, row, place, (other, many))
                self.assertIs(lets_ledger(WISHES, AIM, WEB, thing), False, repr(thing))

    def test_tuples_and_lists_changed(self):
        for row, place in [(row, place) for row in range(4) for place in range(len(LEDGER[row]))]:
            left, many = LEDGER[row][place]
            for entry in ([left, many], (left,), (left, many, many), (many, left), left, many, None, "ab", {left: many}):
                thing = changed(LEDGER, row, place, entry)
                self.assertIs(lets_ledger(WISHES, AIM, WEB, thing), False, repr(thing))
        for row in range(4):
            entries = LEDGER[row]
            for other in ([], tuple(entries), dict(entries), None, entries + entries[:1], entries[:1] + entries,
                          entries + [None], entries[0], entries + entries[::-1]):
                self.assertIs(lets_ledger(WISHES, AIM, WEB, LEDGER[:row] + [other] + LEDGER[row + 1:]), False)
        for row in (1, 2, 3):
            thing = LEDGER[:row] + [LEDGER[row][::-1]] + LEDGER[row + 1:]
            self.assertIs(lets_ledger(WISHES, AIM, WEB, thing), False)

    def test_rows_changed(self):
        for thing in ([], LEDGER[:3], LEDGER[1:], LEDGER + LEDGER[3:], LEDGER + [[]], [[]] + LEDGER, LEDGER[::-1],
                      tuple(LEDGER), dict(enumerate(LEDGER)), [LEDGER], LEDGER[:1] * 4, [[]] * 4, [None] * 4,
                      [LEDGER[0], LEDGER[2], LEDGER[1], LEDGER[3]], LEDGER[1:2] + LEDGER[1:]):
            self.assertIs(lets_ledger(WISHES, AIM, WEB, thing), False, repr(thing))

    def test_the_first_list_has_the_copies_alone(self):
        for entries in ([((0, 2), 1), ((1, 2), 2)], [((0, 2), 1)], [((1, 2), 2), ((2, 2), 0)], [((2, 2), 0)]):
            self.assertIs(lets_ledger(WISHES, AIM, WEB, [entries] + MORE[1:]), False)

    def test_anything(self):
        for odd in anything():
            things = [odd, [odd] * 4, LEDGER[:3] + [odd], [odd] + LEDGER[1:], LEDGER + [odd]]
            things += [LEDGER[:2] + [LEDGER[2] + [odd]] + LEDGER[3:], LEDGER[:3] + [[odd] + LEDGER[3]]]
            things += [changed(LEDGER, 3, 0, ((0, 1), [odd])), changed(LEDGER, 3, 0, (odd, 1)), changed(LEDGER, 2, 0, odd)]
            if repr(odd) != "0":
                things.append(changed(LEDGER, 3, 1, ((1, 1), odd)))
            for thing in things:
                self.assertIs(lets_ledger(WISHES, AIM, WEB, thing), False, repr(thing))


class Told(unittest.TestCase):
    def test_beside_all_best_dealings(self):
        source = random.Random(12)
        for wishes in edge_wishes()[:4] + some_wishes(60):
            for aim in some_aims(wishes)[::2]:
                many = len(best_ones(wishes, aim))
                web, other = web_of(wishes, aim), turned_there_and_back(source, wishes, aim)
                for one in (web, other, together(web, other)):
                    ledger = ledger_of(wishes, aim, one)
                    self.assertIs(lets_ledger(wishes, aim, one, ledger), True)
                    self.assertEqual(told_by(ledger), many)

    def test_all_lefts(self):
        for wishes in some_wishes(25, 3, 3):
            for aim in some_aims(wishes)[::5]:
                web = web_of(wishes, aim)
                for beyond in (0, 1):
                    ledger = whole_ledger(wishes, aim, web, beyond)
                    self.assertIs(lets_ledger(wishes, aim, web, ledger), True, (wishes, aim, web, ledger))
                    self.assertEqual(told_by(ledger), len(best_ones(wishes, aim)))
                    for entries, told in zip(ledger, ledger_of(wishes, aim, web)):
                        self.assertTrue(all(entry in entries for entry in told))

    def test_each_number_counts(self):
        for wishes in some_wishes(25, 3, 3):
            for aim in some_aims(wishes)[::5]:
                web = web_of(wishes, aim)
                ledger = ledger_of(wishes, aim, web)
                for row, entries in enumerate(ledger):
                    for place, (left, many) in enumerate(entries):
                        thing = changed(ledger, row, place, (left, many + 1))
                        self.assertIs(lets_ledger(wishes, aim, web, thing), False)
                        if len(entries) > 1:
                            thing = ledger[:row] + [entries[:place] + entries[place + 1:]] + ledger[row + 1:]
                            self.assertIs(lets_ledger(wishes, aim, web, thing), False)

    def test_form(self):
        for wishes in some_wishes(25) + great_wishes():
            web = web_of(wishes, AIM)
            ledger = ledger_of(wishes, AIM, web)
            self.assertIs(type(ledger), list)
            self.assertEqual(len(ledger), len(wishes[1]) + 1)
            for entries in ledger:
                self.assertIs(type(entries), list)
                self.assertEqual([left for left, many in entries], sorted({left for left, many in entries}))
            self.assertEqual(ledger[0], [(tuple(wishes[0]), told_by(ledger))])

    def test_greatest_sizes(self):
        many = []
        for wishes in great_wishes():
            web = web_of(wishes, AIM)
            ledger = ledger_of(wishes, AIM, web)
            self.assertIs(lets_ledger(wishes, AIM, web, ledger), True)
            # There may be far fewer lefts than dealings.
            self.assertLess(sum(len(entries) for entries in ledger), 3433)
            many.append(told_by(ledger))
        self.assertEqual([many[0], many[1], many[5], many[7]], [6 ** 7, 5040, 2520, 2 ** 7])

    def test_nothing_is_changed_or_kept(self):
        for wishes in [BASE, WISHES] + some_wishes(12):
            for aim in some_aims(wishes)[::3]:
                web = web_of(wishes, aim)
                ledger = same_each_time(self, ledger_of, *copy.deepcopy((wishes, aim, web)))
                same_each_time(self, lets_ledger, *copy.deepcopy((wishes, aim, web, ledger)))
                same_each_time(self, told_by, copy.deepcopy(ledger))


class Refused(unittest.TestCase):
    def test_wishes_ahead_of_all_else(self):
        wishes_ahead(self, [(ledger_of, 2), (lets_ledger, 3)])

    def test_then_aims(self):
        aims_ahead(self, [(ledger_of, 1), (lets_ledger, 2)])


if __name__ == "__main__":
    unittest.main()
