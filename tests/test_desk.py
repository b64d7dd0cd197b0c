"""Desks [30]."""

import copy
import random
import unittest

from tests.helper import (BOOK, all_refused, anything, best_ones, by_change, great_wishes, served_within, all_dealings,
                          some_book, some_list, some_wishes)
from wishdeal.best import bettered
from wishdeal.booktexts import show_book
from wishdeal.dealings import counts_of, what_is_wrong
from wishdeal.desk import Desk
from wishdeal.errors import NoBook, NoChange, NoDeed, NoName, NoRow, NoText

ORDERS = ("firsts", "full", "lasts")
TEXT = "thing fig 1; thing pear 1; thing plum 2; asker ann fig pear; asker bob fig pear; asker cy plum=fig; asker dot"


def desk_with(book, order):
    """A desk that keeps a book."""
    desk = Desk()
    desk.say(f"book {order} " + show_book(book).replace("\n", "; "))
    return desk


def dealing_at(desk, book):
    """The dealing that a desk tells, asker by asker."""
    told = [desk.say(f"has {name}") for name in book[2]]
    return [None if name == "-" else book[1].index(name) for name in told]


def state(desk):
    """All that a desk with a book tells."""
    text = desk.say("show")
    rows = [row.split(" ")[1] for row in text.split("; ") if row.startswith("asker")]
    return [text, desk.say("counts"), desk.say("many")] + [desk.say(f"{word} {name}") for word in ("has", "may")
                                                             for name in rows]


class Rows(unittest.TestCase):
    def test_a_run(self):
        desk = Desk()
        rows = (
            ("book full " + TEXT, "ok"),
            ("show", TEXT),
            ("has dot", "-"), ("has cy", "plum"), ("who plum", "cy"), ("counts", "2 1 1"), ("many", "2"),
            ("may ann", "fig pear"), ("may cy", "plum"), ("may dot", "-"),
            ("level 0", "0"), ("level 1", "2"), ("level 2", "3"), ("level 9999", "3"),
            ("wish dot", "-"), ("undo", "ok"),
            ("copies fig 2", None), ("who fig", "ann bob"), ("who pear", "-"), ("counts", "3 0 1"), ("many", "1"),
            ("come eve fig=plum", "-"), ("has eve", "plum"), ("who plum", "cy eve"), ("may eve", "plum"),
            ("show", TEXT.replace("fig 1", "fig 2") + "; asker eve fig=plum"),
            ("go ann", "-"), ("who fig", None),
            ("undo", "ok"), ("undo", "ok"), ("undo", "ok"), ("show", TEXT), ("counts", "2 1 1"),
        )
        for row, answer in rows:
            told = desk.say(row)
            self.assertIs(type(told), str)
            if answer is not None:
                self.assertEqual(told, answer, row)
        all_refused(self, NoDeed, {}, [(desk.say, "undo")])

    def test_what_is_not_best_by_firsts(self):
        desk = Desk()
        self.assertEqual(desk.say("book firsts thing fig 1; thing pear 1; asker ann fig; asker bob fig pear"), "ok")
        self.assertEqual(desk.say("counts"), "1 1 0")
        self.assertEqual(desk.say("book firsts thing fig 1; asker ann fig; asker bob fig"), "ok")
        self.assertEqual((desk.say("may ann"), desk.say("may bob"), desk.say("many")), ("fig -", "fig -", "2"))
        self.assertEqual(desk.say("level 1"), "1")

    def test_the_moved_as_they_stand_behind_it(self):
        desk = Desk()
        desk.say("book full thing fig 1; thing pear 1; asker ann fig; asker bob fig pear; asker cy pear")
        # Ann has fig, or bob; in each case two are served, two of them with their first.
        self.assertEqual((desk.say("counts"), desk.say("may bob")), ("2 0 1", "fig -"))
        had = desk.say("has ann")
        self.assertEqual(desk.say("wish ann"), "ann" if had == "fig" else "-")
        self.assertEqual((desk.say("has bob"), desk.say("has cy")), ("fig", "pear"))
        self.assertEqual(desk.say("copies fig 0"), "bob")
        self.assertEqual(desk.say("copies pear 0"), "cy")
        self.assertEqual((desk.say("who fig"), desk.say("who pear"), desk.say("counts")), ("-", "-", "0 0 3"))
        self.assertEqual(desk.say("copies pear 2"), "-")
        self.assertEqual(desk.say("who pear"), "bob cy")
        self.assertEqual(desk.say("copies fig 1"), "bob")
        self.assertEqual(desk.say("copies pear 0"), "cy")
        self.assertEqual(desk.say("copies fig 0"), "bob")
        self.assertEqual([desk.say("undo") for time in range(7)], ["ok"] * 7)
        all_refused(self, NoDeed, {}, [(desk.say, "undo")])

    def test_several_moved_by_a_blank(self):
        desk = Desk()
        desk.say("book lasts thing fig 7; thing pear 7; asker bob pear fig; asker ann pear fig; asker cy pear fig")
        self.assertEqual((desk.say("who pear"), desk.say("who fig")), ("bob ann cy", "-"))
        self.assertEqual(desk.say("copies pear 0"), "bob ann cy")
        self.assertEqual(desk.say("go bob"), "-")
        self.assertEqual(desk.say("copies pear 7"), "ann cy")
        self.assertEqual(desk.say("come bob pear"), "-")
        self.assertEqual(desk.say("who pear"), "ann cy bob")

    def test_a_new_asker_of_a_name_that_was_there(self):
        desk = desk_with(BOOK, "full")
        desk.say("go ann")
        all_refused(self, NoName, {}, [(desk.say, "has ann"), (desk.say, "wish ann"), (desk.say, "go ann")])
        desk.say("come ann plum")
        self.assertEqual(desk.say("show").split("; ")[-1], "asker ann plum")
        desk.say("undo")
        all_refused(self, NoName, {}, [(desk.say, "has ann")])
        desk.say("undo")
        self.assertEqual(desk.say("show"), show_book(BOOK).replace("\n", "; "))

    def test_a_thing_and_an_asker_called_alike(self):
        desk = desk_with((([1, 1], [[[1]], [[0]]]), ["ann", "bob"], ["bob", "ann"]), "full")
        self.assertEqual([desk.say(row) for row in ("has ann", "who ann", "has bob", "may bob")], ["ann", "ann", "bob", "bob"])
        self.assertEqual(desk.say("come cy ann=bob"), "-")
        self.assertEqual(desk.say("has cy"), "-")

    def test_a_book_in_the_stead_of_another(self):
        desk = desk_with(BOOK, "full")
        desk.say("go ann")
        self.assertEqual(desk.say("book lasts " + TEXT), "ok")
        self.assertEqual(desk.say("show"), TEXT)
        all_refused(self, NoDeed, {}, [(desk.say, "undo")])
        self.assertEqual(desk.say("show"), TEXT)

    def test_the_order_is_kept(self):
        text = "thing a 1; thing b 1; thing c 1; asker x a b; asker y b a c; asker z a b"
        for order, counts in (("firsts", "2 0 0 1"), ("full", "1 1 1 0"), ("lasts", "1 1 1 0")):
            desk = Desk()
            desk.say(f"book {order} {text}")
            self.assertEqual(desk.say("counts"), counts)
            desk.say("copies a 0")
            desk.say("undo")
            desk.say("copies c 2")
            self.assertEqual(desk.say("counts"), counts)
        text = "thing a 1; thing b 1; thing c 1; asker x a b; asker y b c; asker z a b c"
        for order, counts in (("firsts", "2 0 1 0"), ("full", "2 0 1 0"), ("lasts", "1 2 0 0")):
            desk.say(f"book {order} {text}")
            self.assertEqual(desk.say("counts"), counts)


class Model:
    """What a desk is to tell, by going through all dealings."""

    def __init__(self, book, order):
        self.book, self.order, self.past = copy.deepcopy(book), order, []

    def do(self, change, askers):
        self.past.append(self.book)
        self.book = (by_change(self.book[0], change), self.book[1], askers)

    def rank_words(self, ranks):
        return "".join(" " + "=".join(self.book[1][thing] for thing in rank) for rank in ranks)


class Drawn(unittest.TestCase):
    def look_at(self, desk, model):
        wishes, things, askers = model.book
        aim = (model.order, None, [])
        self.assertEqual(desk.say("show"), show_book(model.book).replace("\n", "; "))
        dealing = dealing_at(desk, model.book)
        self.assertIsNone(what_is_wrong(wishes, dealing))
        self.assertEqual(bettered(wishes, aim, dealing)[0], "best")
        self.assertEqual(desk.say("counts"), " ".join(str(many) for many in counts_of(wishes, dealing)))
        for thing, name in enumerate(things):
            having = [askers[asker] for asker, got in enumerate(dealing) if got == thing]
            self.assertEqual(desk.say(f"who {name}"), " ".join(having) or "-")
        best = best_ones(wishes, aim)
        self.assertEqual(desk.say("many"), str(len(best)))
        for asker, name in enumerate(askers):
            got = [row[asker] for row in best]
            may = [things[thing] for thing in range(len(things)) if thing in got] + ["-"] * (None in got)
            self.assertEqual(desk.say(f"may {name}"), " ".join(may))
        for ranks in (0, 1, 2, 5, 100):
            most = max(served_within(wishes, ranks, row) for row in all_dealings(wishes))
            self.assertEqual(desk.say(f"level {ranks}"), str(most))
        return dealing

    def change(self, source, desk, model):
        """Tell the desk a drawn change; whether it was one."""
        wishes, things, askers = model.book
        word = source.choice(["wish", "copies", "come", "go"])
        asker = source.randrange(len(askers))
        thing = source.randrange(len(things))
        ranks = some_list(source, len(things))
        if word == "wish":
            row, change, names = (f"wish {askers[asker]}{model.rank_words(ranks)}", ("list", asker, ranks), askers)
        if word == "copies":
            many = source.choice([0, 1, 2, 3])
            row, change, names = (f"copies {things[thing]} {many}", ("copies", thing, many), askers)
        if word == "come":
            if len(askers) > 3:
                return False
            name = source.choice([name for name in ("new", "a", "newcomer") if name not in askers])
            row, change, names = (f"come {name}{model.rank_words(ranks)}", ("come", ranks), askers + [name])
        if word == "go":
            if len(askers) == 1:
                return False
            row, change, names = (f"go {askers[asker]}", ("go", asker), askers[:asker] + askers[asker + 1:])
        ahead = dict(zip(askers, dealing_at(desk, model.book)))
        moved = desk.say(row)
        model.do(change, names)
        behind = dict(zip(names, dealing_at(desk, model.book)))
        told = [name for name in names if ahead.get(name) is not None and behind[name] != ahead[name]]
        self.assertEqual(moved, " ".join(told) or "-", row)
        return True

    def test_drawn_runs(self):
        source = random.Random(101)
        for wishes in some_wishes(14):
            book = some_book(source, wishes)
            model = Model(book, source.choice(ORDERS))
            desk = desk_with(book, model.order)
            past = [self.look_at(desk, model)]
            for time in range(9):
                if source.random() < 0.25:
                    if model.past:
                        self.assertEqual(desk.say("undo"), "ok")
                        model.book = model.past.pop()
                        past.pop()
                    else:
                        all_refused(self, NoDeed, {}, [(desk.say, "undo")])
                elif self.change(source, desk, model):
                    past.append(dealing_at(desk, model.book))
                self.assertEqual(self.look_at(desk, model), past[-1])

    def test_greatest_sizes(self):
        source = random.Random(102)
        for wishes in great_wishes():
            for order in ORDERS:
                book = some_book(source, wishes)
                desk = desk_with(book, order)
                dealing = dealing_at(desk, book)
                self.assertEqual(bettered(wishes, (order, None, []), dealing)[0], "best")
                all_refused(self, NoChange, {}, [(desk.say, "come new"), (desk.say, f"copies {book[1][0]} 8")])
                desk.say(f"go {book[2][3]}")
                desk.say("come new")
                self.assertEqual(desk.say("has new"), "-")


NO_ROWS = [
    "", " ", "  ", "none", "Show", "SHOW", "shows", "sho", "-", "=", "0", "ok", "thing fig 1", "asker ann", "list", "thing",
    # A word too few.
    "who", "has", "may", "go", "level", "copies", "copies fig", "wish", "come", "book", "book full",
    # One too many.
    "show ann", "counts 1", "many 1", "undo 1", "undo undo", "who fig pear", "has ann bob", "may ann bob", "go ann bob",
    "level 1 1", "copies fig 1 1",
    # Words without signs, blanks at the ends and doubled.
    " show", "show ", "  show", "who ", "who  fig", "who fig ", " who fig", "has ann ", "has  ann", "level ", "level 1 ",
    "level  1", "copies fig ", "copies  1", "copies fig  1", "copies fig 1 ", "wish ", "wish ann ", "wish  fig",
    "wish ann  fig", "wish ann fig ", "wish ann fig  pear", "come ", "come eve ", "come eve  fig", "come  fig", "go ",
    "go  ann", "undo ", "counts ", "many ",
    # Orders that are none, and what lacks a blank.
    "book ", "book  ", "book  full", "book  full " + TEXT, " book full " + TEXT, "book first " + TEXT, "book Full " + TEXT,
    "book fulls " + TEXT, "book " + TEXT, "book full;" + TEXT, "book none ", "book full\t" + TEXT, "book firsts",
    "book lasts", "books full " + TEXT, "Book full " + TEXT, "book full=firsts " + TEXT, "book - " + TEXT,
    # Numbers that are none.
    "level 10000", "level 00", "level 01", "level -1", "level -0", "level +1", "level a", "level 1a", "level 1.0", "level -",
    "level 00000", "level 12345", "level fig", "copies fig 10000", "copies fig 01", "copies fig -1", "copies fig a",
    "copies fig -0", "copies fig 00", "copies fig +1", "copies fig pear", "copies fig 99999", "copies fig =",
    # Names that are none.
    "who Fig", "who abcdefghi", "who fi1", "who -", "who fig=pear", "who 1", "has Ann", "has abcdefghi", "has -", "has a_b",
    "may Ann", "may abcdefghi", "go Ann", "go abcdefghi", "go 0", "go -", "copies Fig 1", "copies abcdefghi 1",
    "copies fig=pear 1", "copies 1 fig", "wish Ann", "wish abcdefghi", "wish ann=bob", "wish - fig", "come Eve",
    "come abcdefghi", "come eve=zoe", "come - fig", "come 1",
    # Ranks that are none.
    "wish ann fig=", "wish ann =fig", "wish ann =", "wish ann fig==pear", "wish ann -", "wish ann Fig", "wish ann fig pear=",
    "wish ann abcdefghi", "wish ann fig=abcdefghi", "wish ann fig 1", "wish ann 1", "wish ann fig,pear", "come eve fig=",
    "come eve =fig", "come eve =", "come eve -", "come eve Fig", "come eve fig==pear", "come eve abcdefghi",
    "come eve pear fig=Plum",
]


class Refused(unittest.TestCase):
    def test_no_row_with_a_book_and_without(self):
        rows = NO_ROWS + [row for row in anything() if not isinstance(row, str)] + [["show"], ("show",), b"show"]
        for desk in (Desk(), desk_with(BOOK, "full")):
            for row in rows:
                all_refused(self, NoRow, {}, [(desk.say, row)])

    def test_a_line_feed_anywhere(self):
        for desk in (Desk(), desk_with(BOOK, "full")):
            for row in ("show", "who fig", "wish ann fig=pear plum", "level 1", "undo", "book full thing a 1; asker b"):
                for place in range(len(row) + 1):
                    all_refused(self, NoRow, {}, [(desk.say, row[:place] + "\n" + row[place:])])
                    all_refused(self, NoRow, {}, [(desk.say, row[:place] + "\n" + row[place + 1:])])

    def test_a_tab_anywhere(self):
        for desk in (Desk(), desk_with(BOOK, "full")):
            for row in ("show", "who fig", "wish ann fig=pear plum", "level 1", "undo", "copies fig 2", "come eve fig"):
                for place in range(len(row) + 1):
                    all_refused(self, NoRow, {}, [(desk.say, row[:place] + "\t" + row[place:])])
                    all_refused(self, NoRow, {}, [(desk.say, row[:place] + "\t" + row[place + 1:])])
            row = "book full thing a 1"
            for place in range(10):
                all_refused(self, NoRow, {}, [(desk.say, row[:place] + "\t" + row[place:])])
            for place in range(10, len(row) + 1):
                all_refused(self, NoText, {"row": 0}, [(desk.say, row[:place] + "\t" + row[place:])])

    def test_no_book(self):
        rows = ["show", "who fig", "has ann", "counts", "may ann", "many", "wish ann", "wish ann fig", "wish ann fig=fig",
                "copies fig 1", "copies fig 9", "come ann", "come ann fig a b c d e", "go ann", "undo", "level 0", "level 9999"]
        desk = Desk()
        all_refused(self, NoBook, {}, [(desk.say, row) for row in rows])
        for text in ("", "thing a 1", "nothing"):
            self.assertRaises(NoText, desk.say, "book full " + text)
        all_refused(self, NoBook, {}, [(desk.say, row) for row in rows])

    def test_no_name(self):
        desk = desk_with(BOOK, "full")
        # Names of a thing aren't an asker's, an asker's aren't a thing's; wanted names are looked at ahead of changes.
        rows = ["who grape", "who ann", "who bob", "has zoe", "has pear", "may zoe", "may plum", "wish zoe", "wish pear fig",
                "wish zoe fig", "wish ann grape", "wish ann fig grape", "wish ann fig=grape", "wish ann fig=fig grape",
                "wish ann ann", "wish ann a b c d e f", "copies grape 1", "copies ann 1", "copies grape 9", "go zoe", "go pear",
                "come eve grape", "come eve fig=grape", "come ann grape", "come eve eve", "come eve fig fig grape"]
        all_refused(self, NoName, {}, [(desk.say, row) for row in rows])

    def test_no_text(self):
        for desk in (Desk(), desk_with(BOOK, "full")):
            rows = (
                ("book full ", 0), ("book firsts  ", 0), ("book lasts ; ", 0), ("book full thing a 1", 1),
                ("book full thing a 1; ", 1), ("book full thing a 1;asker b", 0), ("book full  thing a 1; asker b", 0),
                ("book full thing a 1;  asker b", 1), ("book full thing a 1; asker b ", 1), ("book full thing a 1; asker b;", 1),
                ("book full thing a 1; asker b; ", 2), ("book full thing a 1 ; asker b", 0), ("book full asker b", 0),
                ("book full thing a 8; asker b", 0), ("book full thing a 1; asker b c", 1), ("book full full", 0),
                ("book full thing a 1; ; asker b", 1), ("book full thing a 1;; asker b", 0), ("book lasts thing a 1; ask", 1),
                ("book full thing a 1; thing b 1; thing a 1; asker c", 2), ("book full thing a 1; asker b; asker b", 2),
            )
            for row, number in rows:
                all_refused(self, NoText, {"row": number}, [(desk.say, row)])

    def test_no_change(self):
        book = (([1] * 6, [[[0]], [[1]]]), list("abcdef"), ["ann", "bob"])
        desk = desk_with(book, "lasts")
        rows = ["wish ann a a", "wish ann a=a", "wish ann a=b c b", "wish ann a b c d e f", "copies a 8", "copies b 10",
                "copies a 9999", "come ann", "come bob a", "come ann a=a", "come eve a b c d e f", "come eve a=b=a",
                "come eve a a"]
        all_refused(self, NoChange, {}, [(desk.say, row) for row in rows])
        desk.say("go ann")
        all_refused(self, NoChange, {}, [(desk.say, "go bob"), (desk.say, "come bob")])
        for name in "cdefgh":
            self.assertEqual(desk.say(f"come {name}"), "-")
        all_refused(self, NoChange, {}, [(desk.say, "come i"), (desk.say, "come c")])
        self.assertEqual((desk.say("has bob"), desk.say("wish bob a b c d e=f"), desk.say("has bob")), ("b", "bob", "a"))

    def test_no_deed(self):
        desk = desk_with(BOOK, "full")
        all_refused(self, NoDeed, {}, [(desk.say, "undo")])
        desk.say("wish ann")
        desk.say("undo")
        all_refused(self, NoDeed, {}, [(desk.say, "undo"), (desk.say, "undo")])

    def test_what_is_refused_changes_nothing(self):
        desk = desk_with(BOOK, "firsts")
        first = state(desk)
        desk.say("go ann")
        desk.say("come eve plum=pear")
        second = state(desk)
        rows = NO_ROWS + ["who grape", "wish zoe", "wish eve grape", "come eve", "come eve fig", "come new fig fig", "go zoe",
                          "copies fig 8", "copies grape 1", "wish eve fig=fig", "wish eve fig pear fig", "book full ",
                          "book lasts thing a 1", "book full thing a 1; asker a b", None, b"go eve", "go eve\n"]
        for row in rows:
            self.assertRaises((NoRow, NoName, NoChange, NoText), desk.say, row)
        self.assertEqual(state(desk), second)
        self.assertEqual([desk.say("undo"), desk.say("undo")], ["ok", "ok"])
        self.assertEqual(state(desk), first)
        all_refused(self, NoDeed, {}, [(desk.say, "undo")])
        self.assertEqual(state(desk), first)


class OnesOwn(unittest.TestCase):
    def test_asking_changes_nothing(self):
        desk = desk_with(BOOK, "full")
        first = state(desk)
        for time in range(3):
            self.assertEqual(state(desk), first)
        all_refused(self, NoDeed, {}, [(desk.say, "undo")])

    def test_one_desk_changes_no_other(self):
        one, other = desk_with(BOOK, "full"), desk_with(BOOK, "full")
        first = state(other)
        one.say("go ann")
        one.say("come zoe")
        self.assertEqual(state(other), first)
        all_refused(self, NoDeed, {}, [(other.say, "undo")])
        empty = Desk()
        all_refused(self, NoBook, {}, [(empty.say, "show")])


if __name__ == "__main__":
    unittest.main()
