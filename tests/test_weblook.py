"""Webs that are let by and things that aren't [18]; what each one that is let by tells [3] (d)."""

import copy
import itertools
import random
import unittest

from tests.helper import (BASE, aims_ahead, all_dealings, anything, best_ones, edge_wishes, great_wishes, same_each_time,
                          some_aims, some_wishes, tight_by_words, together, turned_there_and_back, wishes_ahead)
from wishdeal.best import best_dealing
from wishdeal.papers import claim_of, lets_paper
from wishdeal.weblook import lets_web
from wishdeal.webs import web_of
from wishdeal.worths import worth_of

# One copy, two askers who wish for it alike: each wish is worth 4.
WISHES = ([1, 0], [[[0]], [[0]], []])
AIM = ("firsts", None, [])
WEBS = (
    ((1, [0, 0, 0], [4, 1]), [[0, None, None], [None, 0, None]]),
    ((1, [0, 0, 0], [4, 1]), [[None, 0, None], [0, None, None], [None, 0, None]]),
    ((1, [0, 0, 0], [4, 10 ** 59]), [[0, None, None], [None, 0, None]]),
    ((10 ** 57, [0, 0, 0], [4 * 10 ** 57, 1]), [[0, None, None], [None, 0, None]]),
)
NO_WEBS = (
    # No paper, or one that claims more.
    ((1, [0, 0, 0], [3, 1]), [[0, None, None], [None, 0, None]]),
    ((1, [0, 0, 0], [5, 1]), [[0, None, None], [None, 0, None]]),
    ((1, [1, 0, 0], [4, 1]), [[0, None, None], [None, 0, None]]),
    ((0, [0, 0, 0], [4, 1]), [[0, None, None], [None, 0, None]]),
    ((2, [0, 0, 0], [4, 1]), [[0, None, None], [None, 0, None]]),
    ((2, [0, 0, 0], [9, 1]), [[0, None, None], [None, 0, None]]),
    ([1, [0, 0, 0], [4, 1]], [[0, None, None], [None, 0, None]]),
    ((1, [0, 0], [4, 1]), [[0, None, None], [None, 0, None]]),
    (None, [[0, None, None], [None, 0, None]]),
    # A dealing that is none, or isn't best.
    ((1, [0, 0, 0], [4, 1]), [[0, None, None], [None, 0, None], [0, 0, None]]),
    ((1, [0, 0, 0], [4, 1]), [[0, None, None], [None, 0, None], [None, None, None]]),
    ((1, [0, 0, 0], [4, 1]), [[0, None, None], [None, 0, None], [None, None, 0]]),
    ((1, [0, 0, 0], [4, 1]), [[0, None, None], [None, 0, None], [0, None]]),
    ((1, [0, 0, 0], [4, 1]), [(0, None, None), [None, 0, None]]),
    ((1, [0, 0, 0], [4, 1]), [[False, None, None], [None, 0, None]]),
    ((1, [0, 0, 0], [4, 1]), [[0, None, None], [None, 0, None], None]),
    # Something that no dealing shows: tight wishes, the thing without copies.
    ((1, [0, 0, 0], [4, 1]), [[0, None, None]]),
    ((1, [0, 0, 0], [4, 1]), [[None, 0, None]]),
    ((1, [0, 0, 0], [4, 0]), [[0, None, None], [None, 0, None]]),
    # No dealings, also where the paper has nothing to be shown, and other forms.
    ((1, [0, 0, 0], [4, 1]), []),
    ((1, [3, 3, 3], [4, 1]), []),
    ((1, [0, 0, 0], [4, 1]), ([0, None, None], [None, 0, None])),
    ((1, [0, 0, 0], [4, 1]), None),
    ((1, [0, 0, 0], [4, 1]), {0: [0, None, None], 1: [None, 0, None]}),
    ((1, [0, 0, 0], [4, 1]), [0, None, None]),
    [(1, [0, 0, 0], [4, 1]), [[0, None, None], [None, 0, None]]],
    ((1, [0, 0, 0], [4, 1]),),
    ((1, [0, 0, 0], [4, 1]), [[0, None, None], [None, 0, None]], None),
    (1, [0, 0, 0], [4, 1]),
    ([[0, None, None], [None, 0, None]], (1, [0, 0, 0], [4, 1])),
)


def is_web_by_words(wishes, aim, paper, dealings):
    """Whether a paper and dealings are a web, by the words of the document."""
    times, asks, prices = paper
    if not dealings or any(times * worth_of(wishes, aim, dealing) != claim_of(wishes, paper) for dealing in dealings):
        return False
    dealt = {pair for dealing in dealings for pair in enumerate(dealing)}
    if any(pair not in dealt for pair in tight_by_words(wishes, aim, paper)):
        return False
    if any(ask == 0 and (asker, None) not in dealt for asker, ask in enumerate(asks)):
        return False
    return all(price > 0 or min(dealing.count(thing) for dealing in dealings) < wishes[0][thing]
               for thing, price in enumerate(prices))


def told_by_web(wishes, aim, paper):
    """The dealings that a web's paper tells, by the words of the document."""
    tight = tight_by_words(wishes, aim, paper)
    told = []
    for dealing in all_dealings(wishes):
        if all(got is None or (asker, got) in tight for asker, got in enumerate(dealing)):
            if all(ask == 0 or got is not None for ask, got in zip(paper[1], dealing)):
                if all(price == 0 or dealing.count(thing) == wishes[0][thing]
                       for thing, price in enumerate(paper[2])):
                    told.append(dealing)
    return told


class LetBy(unittest.TestCase):
    def test_webs(self):
        for web in WEBS:
            self.assertIs(lets_web(WISHES, AIM, web), True, web)

    def test_no_webs(self):
        for thing in NO_WEBS:
            ahead = repr(thing)
            self.assertIs(lets_web(WISHES, AIM, thing), False, repr(thing))
            self.assertEqual(repr(thing), ahead)

    def test_an_asker_without_asks_must_be_shown_without(self):
        # Two copies serve both; asks of 0 tell that one may get nothing.
        wishes = ([2], [[[0]], [[0]]])
        self.assertIs(lets_web(wishes, AIM, ((1, [3, 3], [0]), [[0, 0]])), False)
        self.assertIs(lets_web(wishes, AIM, ((1, [0, 0], [3]), [[0, 0]])), False)
        self.assertIs(lets_web(wishes, AIM, ((1, [2, 0], [3]), [[0, 0]])), False)
        self.assertIs(lets_web(wishes, AIM, ((1, [1, 1], [2]), [[0, 0]])), True)
        self.assertIs(lets_web(wishes, AIM, ((2, [1, 1], [5]), [[0, 0]])), True)

    def test_a_thing_without_a_price_must_be_shown_with_a_copy_left(self):
        wishes = ([1], [[[0]]])
        self.assertIs(lets_web(wishes, AIM, ((1, [2], [0]), [[0]])), False)
        self.assertIs(lets_web(wishes, AIM, ((1, [0], [2]), [[0]])), False)
        self.assertIs(lets_web(wishes, AIM, ((1, [1], [1]), [[0]])), True)
        self.assertIs(lets_web(([2], [[[0]]]), AIM, ((1, [2], [0]), [[0]])), True)
        self.assertIs(lets_web(([2], [[[0]]]), AIM, ((1, [1], [1]), [[0]])), False)

    def test_where_there_are_no_wishes(self):
        self.assertIs(lets_web(([0], [[]]), AIM, ((1, [0], [1]), [[None]])), True)
        self.assertIs(lets_web(([0], [[]]), AIM, ((1, [0], [0]), [[None]])), False)
        self.assertIs(lets_web(([0], [[]]), AIM, ((1, [1], [1]), [[None]])), False)
        self.assertIs(lets_web(([1], [[]]), AIM, ((1, [0], [0]), [[None]])), True)
        self.assertIs(lets_web(([1], [[]]), AIM, ((1, [0], [1]), [[None]])), False)

    def test_anything(self):
        paper, dealings = WEBS[0]
        for odd in anything():
            things = [odd, (odd, dealings), (paper, odd), (paper, dealings + [odd]), (paper, [odd] + dealings)]
            things += [((odd,) + paper[1:], dealings), ((1, odd, paper[2]), dealings), ((1, paper[1], odd), dealings)]
            for thing in things:
                told = repr(thing) == repr(WEBS[0])
                self.assertIs(lets_web(WISHES, AIM, thing), told, repr(thing))


class Changed(unittest.TestCase):
    """The program's own webs, with one part changed."""

    def rows(self):
        for wishes in edge_wishes()[:4] + some_wishes(40):
            for aim in some_aims(wishes)[::2]:
                yield wishes, aim, web_of(wishes, aim)

    def test_no_dealings(self):
        for wishes, aim, web in self.rows():
            self.assertIs(lets_web(wishes, aim, (web[0], [])), False)

    def test_a_paper_that_claims_otherwise(self):
        for wishes, aim, (paper, dealings) in self.rows():
            for part in (1, 2):
                for place in range(len(paper[part])):
                    for more in (1, -1):
                        changed = copy.deepcopy(paper)
                        changed[part][place] += more
                        # The price of a thing without copies, or two numbers together, may be otherwise in a web.
                        told = changed[part][place] >= 0 and lets_paper(wishes, aim, changed)
                        told = told and is_web_by_words(wishes, aim, changed, dealings)
                        self.assertIs(lets_web(wishes, aim, (changed, dealings)), told)
            times, asks, prices = paper
            self.assertIs(lets_web(wishes, aim, ((times, asks + [1], prices), dealings)), False)
            self.assertIs(lets_web(wishes, aim, ((times, asks, prices[:-1]), dealings)), False)
            self.assertIs(lets_web(wishes, aim, ((0, asks, prices), dealings)), False)
            if worth_of(wishes, aim, dealings[0]) > 0:
                self.assertIs(lets_web(wishes, aim, ((times + 1, asks, prices), dealings)), False)
                self.assertIs(lets_web(wishes, aim, ((times - 1, asks, prices), dealings)), False)

    def test_another_dealing(self):
        for wishes, aim, (paper, dealings) in self.rows():
            best = best_ones(wishes, aim)
            for other in all_dealings(wishes):
                self.assertIs(lets_web(wishes, aim, (paper, dealings + [other])), other in best)
            for odd in ([None] * (len(wishes[1]) + 1), [99] * len(wishes[1]), tuple(dealings[0]), dealings[0] + [None]):
                self.assertIs(lets_web(wishes, aim, (paper, dealings + [odd])), False)
                self.assertIs(lets_web(wishes, aim, (paper, [odd] + dealings)), False)

    def test_what_no_dealing_shows(self):
        for wishes, aim, (paper, dealings) in self.rows():
            best = best_ones(wishes, aim)
            for asker, got in {pair for dealing in best for pair in enumerate(dealing)}:
                shown = [dealing for dealing in best if dealing[asker] != got]
                self.assertIs(lets_web(wishes, aim, (paper, shown)), False)
            for thing in range(len(wishes[0])):
                shown = [dealing for dealing in best if dealing.count(thing) == wishes[0][thing]]
                if len(shown) < len(best):
                    self.assertIs(lets_web(wishes, aim, (paper, shown)), False)


class Others(unittest.TestCase):
    """Webs that the program didn't write."""

    def test_all_best_dealings(self):
        for wishes in edge_wishes()[:4] + some_wishes(60):
            for aim in some_aims(wishes):
                paper, dealings = web_of(wishes, aim)
                best = best_ones(wishes, aim)
                self.assertIs(lets_web(wishes, aim, (paper, best)), True)
                self.assertIs(lets_web(wishes, aim, (paper, best[::-1] + best)), True)
                times, asks, prices = paper
                more = (times * 9, [ask * 9 for ask in asks], [price * 9 for price in prices])
                self.assertIs(lets_web(wishes, aim, (more, dealings)), True)

    def test_found_otherwise_and_summed_up(self):
        source = random.Random(8)
        for wishes in edge_wishes() + some_wishes(50) + great_wishes()[3:5]:
            for aim in some_aims(wishes)[::2]:
                web = turned_there_and_back(source, wishes, aim)
                self.assertIs(lets_web(wishes, aim, web), True)
                self.assertIs(lets_web(wishes, aim, together(web, web_of(wishes, aim))), True)

    def test_any_papers_and_dealings(self):
        source = random.Random(9)
        webs = 0
        for wishes in some_wishes(60, 3, 3):
            for aim in some_aims(wishes)[::2]:
                best = best_ones(wishes, aim)
                dealing, paper = best_dealing(wishes, aim)
                strict = web_of(wishes, aim)[0]
                for times, asks, prices in (paper, strict, together((paper, []), (strict, []))[0]):
                    for time in range(3):
                        shown = source.sample(best, source.randint(1, len(best)))
                        told = is_web_by_words(wishes, aim, (times, asks, prices), shown)
                        self.assertIs(lets_web(wishes, aim, ((times, asks, prices), shown)), told)
                        webs += told
        self.assertGreater(webs, 99)

    def test_the_best_dealings_are_just_those_of_the_web(self):
        source = random.Random(10)
        for wishes in edge_wishes()[:4] + some_wishes(50):
            for aim in some_aims(wishes)[::2]:
                best = best_ones(wishes, aim)
                one, other = web_of(wishes, aim), turned_there_and_back(source, wishes, aim)
                for web in (one, other, together(one, other)):
                    self.assertIs(lets_web(wishes, aim, web), True)
                    self.assertCountEqual(told_by_web(wishes, aim, web[0]), best)

    def test_small_papers_gone_through(self):
        # Whatever small paper is let by as a web's, the best dealings are just those that it tells.
        for wishes in (([1], [[[0]], [[0]]]), ([2], [[[0]], [[0]]]), ([1, 1], [[[0, 1]]]), ([0, 1], [[[0], [1]]])):
            best = best_ones(wishes, AIM)
            webs = 0
            for times in (1, 2):
                parts = [range(times * 5 + 1)] * (len(wishes[1]) + len(wishes[0]))
                for row in itertools.product(*parts):
                    paper = (times, list(row[:len(wishes[1])]), list(row[len(wishes[1]):]))
                    if lets_web(wishes, AIM, (paper, best)):
                        webs += 1
                        self.assertCountEqual(told_by_web(wishes, AIM, paper), best)
            self.assertGreater(webs, 0, wishes)


class Kept(unittest.TestCase):
    def test_nothing_is_changed_or_kept(self):
        for web in WEBS + NO_WEBS:
            same_each_time(self, lets_web, copy.deepcopy(WISHES), copy.deepcopy(AIM), copy.deepcopy(web))

    def test_wishes_are_refused_ahead_of_all_else(self):
        wishes_ahead(self, [(lets_web, 2)])

    def test_then_aims(self):
        aims_ahead(self, [(lets_web, 1)])
        self.assertIs(lets_web(BASE, AIM, None), False)


if __name__ == "__main__":
    unittest.main()
