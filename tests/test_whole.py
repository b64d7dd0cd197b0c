"""What the program comes to as a whole, over runs through all its modules [1] [2] [3]."""

import copy
import random
import unittest

from tests.helper import (all_dealings, best_ones, edge_wishes, great_wishes, served_within, some_aims, some_book,
                          some_changes, some_numberings, some_wishes, together, turned_there_and_back)
from wishdeal.aims import is_better, score_of
from wishdeal.allbest import all_best, orders_part
from wishdeal.best import best_dealing, bettered
from wishdeal.booktexts import read_book, show_book
from wishdeal.changes import carried
from wishdeal.counting import how_many, number_of, numbered, shares
from wishdeal.covers import cover_for, lets_cover, size_of
from wishdeal.dealings import copies_left, counts_of, ranks_got, what_is_wrong
from wishdeal.dealtexts import read_dealing, read_paper, show_dealing, show_paper
from wishdeal.desk import Desk
from wishdeal.joined import dealings_beside, wishes_beside
from wishdeal.keeper import Keeper
from wishdeal.ledgers import ledger_of, lets_ledger, told_by
from wishdeal.levels import level_dealing, level_of
from wishdeal.mends import mended
from wishdeal.papers import claim_of, lets_paper
from wishdeal.partings import ways_between
from wishdeal.singles import singled, singled_dealing
from wishdeal.turned import turned_aim, turned_dealing, turned_paper, turned_web, turned_wishes
from wishdeal.ways import done, gain_of
from wishdeal.weblook import lets_web
from wishdeal.webs import full, may_get, possible, served, sure, web_of
from wishdeal.wishes import longest
from wishdeal.worths import worth_of

ORDERS = ("firsts", "full", "lasts")


def drawn(many):
    """Small wishes and aims for them, of which all dealings may be gone through."""
    source = random.Random(111)
    told = []
    for wishes in edge_wishes()[:4] + some_wishes(many):
        told += [(wishes, aim) for aim in source.sample(some_aims(wishes), 4)]
    return told


class OneByOne(unittest.TestCase):
    """What point 3 tells, beside all dealings gone through one by one."""

    def test_a_none_is_better_and_h_none_leaves_all_as_well_off(self):
        for wishes, aim in drawn(40):
            dealing, paper = best_dealing(wishes, aim)
            self.assertIsNone(what_is_wrong(wishes, dealing))
            mine = [rank or 9 for rank in ranks_got(wishes, dealing)]
            for other in all_dealings(wishes):
                self.assertIs(is_better(wishes, aim, other, dealing), False)
                yours = [rank or 9 for rank in ranks_got(wishes, other)]
                self.assertFalse(yours != mine and all(b <= a for a, b in zip(mine, yours)))

    def test_b_papers_by_whomever(self):
        source = random.Random(112)
        for wishes, aim in drawn(30):
            dealing, paper = best_dealing(wishes, aim)
            most = max(worth_of(wishes, aim, other) for other in all_dealings(wishes))
            self.assertEqual(claim_of(wishes, paper), most)
            for time in range(6):
                times = source.randint(1, 3)
                other = (times, [max(0, times * ask + source.randint(-2, 2)) for ask in paper[1]],
                         [max(0, times * price + source.randint(-2, 2)) for price in paper[2]])
                if lets_paper(wishes, aim, other):
                    self.assertGreaterEqual(claim_of(wishes, other), times * most)

    def test_c_of_every_dealing_a_way_or_a_paper(self):
        for wishes, aim in drawn(20):
            for dealing in all_dealings(wishes)[::3]:
                word, shown = bettered(wishes, aim, dealing)
                if word == "way":
                    self.assertIs(is_better(wishes, aim, done(wishes, dealing, shown), dealing), True)
                else:
                    self.assertIs(lets_paper(wishes, aim, shown), True)
                    self.assertEqual(claim_of(wishes, shown), worth_of(wishes, aim, dealing))

    def test_d_webs_and_e_ledgers_by_whomever(self):
        source = random.Random(113)
        for wishes, aim in drawn(25):
            best = best_ones(wishes, aim)
            one, other = web_of(wishes, aim), turned_there_and_back(source, wishes, aim)
            for web in (one, other, together(one, other)):
                self.assertIs(lets_web(wishes, aim, web), True)
                dealt = [{(asker, got) for asker, got in enumerate(dealing) if got is not None} for dealing in best]
                self.assertEqual(possible(wishes, aim, web), sorted(set.union(*dealt)))
                self.assertEqual(sure(wishes, aim, web), sorted(set.intersection(*dealt)))
                askers, things = list(range(len(wishes[1]))), list(range(len(wishes[0])))
                self.assertEqual(served(web), [a for a in askers if None not in [row[a] for row in best]])
                self.assertEqual(full(web), [t for t in things if not any(copies_left(wishes, row)[t] for row in best)])
                for asker in askers:
                    got = {row[asker] for row in best}
                    self.assertEqual(may_get(wishes, aim, web, asker), (sorted(got - {None}), None in got))
                ledger = ledger_of(wishes, aim, web)
                self.assertIs(lets_ledger(wishes, aim, web, ledger), True)
                self.assertEqual(told_by(ledger), len(best))
            self.assertEqual(how_many(wishes, aim), len(best))
            self.assertEqual(all_best(wishes, aim), best)
            self.assertEqual([number_of(wishes, aim, dealing) for dealing in best[:9]], list(range(len(best)))[:9])
            self.assertEqual(numbered(wishes, aim, len(best) - 1), best[-1])
            self.assertEqual([sum(many for what, many in shares(wishes, aim, asker)) for asker in range(len(best[0]))],
                             [len(best)] * len(best[0]))

    def test_f_covers_by_whomever(self):
        for wishes in edge_wishes()[:4] + some_wishes(50):
            for ranks in range(longest(wishes) + 2):
                level = level_of(wishes, ranks)
                dealings = all_dealings(wishes)
                self.assertEqual(level, max(served_within(wishes, ranks, dealing) for dealing in dealings))
                self.assertEqual(served_within(wishes, ranks, level_dealing(wishes, ranks)), level)
                cover = cover_for(wishes, ranks)
                self.assertIs(lets_cover(wishes, ranks, cover), True)
                self.assertEqual(size_of(wishes, cover), level)
                for other in (([], list(range(len(wishes[0])))), (list(range(len(wishes[1]))), [])):
                    self.assertIs(lets_cover(wishes, ranks, other), True)
                    self.assertGreaterEqual(size_of(wishes, other), level)

    def test_g_none_moves_fewer(self):
        source = random.Random(114)
        for wishes in some_wishes(25):
            for change in source.sample(some_changes(source, wishes), 4):
                order = source.choice(ORDERS)
                dealing = source.choice(all_dealings(wishes))
                now, best, moved, paper = mended(wishes, change, order, dealing)
                old = carried(wishes, change, dealing)
                by_order = best_ones(now, (order, None, []))
                self.assertIn(best, by_order)
                kept = max(len([1 for had, got in zip(old, row) if had is not None and had == got]) for row in by_order)
                self.assertEqual(len(moved), len([had for had in old if had is not None]) - kept)


class Together(unittest.TestCase):
    """Runs in which what one module tells is handed to the next one, also at the greatest sizes."""

    def test_levels_and_best_counts(self):
        for wishes in great_wishes() + some_wishes(60):
            most = longest(wishes)
            counts = {order: counts_of(wishes, best_dealing(wishes, (order, None, []))[0]) for order in ORDERS}
            if most > 0:
                self.assertEqual(counts["firsts"][0], level_of(wishes, 1))
            for order in ("full", "lasts"):
                self.assertEqual(counts[order][-1], len(wishes[1]) - level_of(wishes, most))
            for one in ORDERS:
                for other in ORDERS:
                    self.assertEqual(orders_part(wishes, one, other) is None, counts[one] == counts[other])

    def test_ways_to_a_best_dealing(self):
        source = random.Random(115)
        for wishes in great_wishes() + some_wishes(20):
            for aim in source.sample(some_aims(wishes), 3):
                best = best_dealing(wishes, aim)[0]
                dealing = level_dealing(wishes, 1)
                ways = ways_between(wishes, dealing, best)
                gains = [gain_of(wishes, aim, dealing, way) for way in ways]
                self.assertEqual(sum(gains), worth_of(wishes, aim, best) - worth_of(wishes, aim, dealing))
                self.assertEqual(any(gain > 0 for gain in gains), bettered(wishes, aim, dealing)[0] == "way")
                source.shuffle(ways)
                for way in ways:
                    dealing = done(wishes, dealing, way)
                self.assertEqual(dealing, best)

    def test_i_called_otherwise(self):
        source = random.Random(116)
        for wishes in great_wishes() + some_wishes(20):
            for askers, things in some_numberings(source, wishes)[4:]:
                aim = source.choice(some_aims(wishes))
                told, turned = turned_wishes(wishes, askers, things), turned_aim(wishes, aim, askers, things)
                dealing, paper = best_dealing(wishes, aim)
                self.assertEqual(score_of(told, turned, best_dealing(told, turned)[0]), score_of(wishes, aim, dealing))
                self.assertEqual(bettered(told, turned, turned_dealing(wishes, dealing, askers, things))[0], "best")
                self.assertIs(lets_paper(told, turned, turned_paper(wishes, paper, askers, things)), True)
                web = turned_web(wishes, web_of(wishes, aim), askers, things)
                self.assertIs(lets_web(told, turned, web), True)
                self.assertEqual(told_by(ledger_of(told, turned, web)), how_many(wishes, aim))

    def test_i_beside_one_another_and_copy_by_copy(self):
        small = [wishes for wishes in some_wishes(60, 3, 3) if 1 <= sum(wishes[0]) <= 3]
        self.assertGreater(len(small), 10)
        for one, other in zip(small, small[1:]):
            for order in ORDERS:
                aim = (order, None, [])
                mine, yours = best_dealing(one, aim)[0], best_dealing(other, aim)[0]
                both = wishes_beside(one, other)
                beside = dealings_beside(one, mine, yours)
                self.assertEqual(bettered(both, aim, beside)[0], "best")
                self.assertEqual(how_many(both, aim), how_many(one, aim) * how_many(other, aim))
                by_copy = singled(both)
                if [len(ranks) for ranks in by_copy[1]] == [len(ranks) for ranks in both[1]]:
                    self.assertEqual(bettered(by_copy, aim, singled_dealing(both, beside))[0], "best")

    def test_j_texts_there_and_back(self):
        source = random.Random(117)
        for wishes in great_wishes() + some_wishes(30):
            book = some_book(source, wishes)
            self.assertEqual(read_book(show_book(book)), book)
            for aim in source.sample(some_aims(wishes), 3):
                dealing, paper = best_dealing(wishes, aim)
                self.assertEqual(read_dealing(book, show_dealing(book, dealing)), dealing)
                self.assertEqual(read_paper(show_paper(paper)), paper)

    def test_j_a_keeper_and_a_desk_go_together(self):
        source = random.Random(118)
        for wishes in great_wishes()[3:] + some_wishes(20):
            book = some_book(source, wishes)
            order = source.choice(ORDERS)
            desk, keeper, things = Desk(), Keeper(wishes, order), book[1]
            desk.say(f"book {order} " + show_book(book).replace("\n", "; "))
            askers = list(book[2])
            for time in range(6):
                now = keeper.wishes()
                self.assertEqual(desk.say("show"), show_book((now, things, askers)).replace("\n", "; "))
                dealing = keeper.dealing()
                self.assertEqual(bettered(now, (order, None, []), dealing)[0], "best")
                self.assertEqual(desk.say("counts").split(" "), [str(many) for many in keeper.counts()])
                self.assertEqual(desk.say("many"), str(how_many(now, (order, None, []))))
                self.assertEqual(desk.say("level 1"), str(level_of(now, 1)))
                self.assertEqual(claim_of(now, keeper.paper()), worth_of(now, (order, None, []), dealing))
                change = source.choice([row for row in some_changes(source, now) if row[0] in ("copies", "list")])
                moved = keeper.change(change)
                if change[0] == "copies":
                    row = f"copies {things[change[1]]} {change[2]}"
                else:
                    words = ["=".join(things[thing] for thing in rank) for rank in change[2]]
                    row = " ".join(["wish", askers[change[1]]] + words)
                self.assertEqual(desk.say(row), " ".join(askers[asker] for asker in moved) or "-")

    def test_nothing_hangs_on_what_was_asked_ahead(self):
        for wishes, aim in drawn(6):
            calls = [best_dealing, web_of, how_many, all_best]
            first = [repr(call(wishes, aim)) for call in calls]
            for other, beside in drawn(3):
                best_dealing(other, beside)
                web_of(other, beside)
            kept = copy.deepcopy((wishes, aim))
            self.assertEqual([repr(call(*kept)) for call in calls[::-1]], first[::-1])


if __name__ == "__main__":
    unittest.main()
