"""Books and their texts [27] [3] (j)."""

import copy
import itertools
import random
import re
import unittest

from tests.helper import (BOOK, all_refused, anything, edge_wishes, great_wishes, refused_with, same_each_time, some_book,
                          some_wishes, wrong_books)
from wishdeal.booktexts import read_book, show_book
from wishdeal.errors import NoBook, NoText

TEXT = "thing fig 2\nthing pear 1\nthing plum 0\nasker ann fig=pear plum\nasker bob pear fig\nasker cy\nasker fig plum"
NAME = "[a-z]{1,8}"


def all_unlike(row):
    return len(set(row)) == len(row)


def begin_a_book(rows):
    """Whether rows are the first ones of some book's text, by the words of the document."""
    heads = list(itertools.takewhile(lambda row: re.fullmatch(f"thing {NAME} [0-7]", row), rows))
    tails = rows[len(heads):]
    if not 1 <= len(heads) <= 6 or len(tails) > 7:
        return False
    things = [row.split(" ")[1] for row in heads]
    if not all(re.fullmatch(f"asker {NAME}( {NAME}(={NAME})*){{0,5}}", row) for row in tails):
        return False
    wished = [re.split("[ =]", row)[2:] for row in tails]
    return (all_unlike(things) and all_unlike([row.split(" ")[1] for row in tails])
            and all(all_unlike(names) and set(names) <= set(things) for names in wished))


def wanted_row(text):
    """The row with which a text is refused, by the words of the document, None where it is that of a book."""
    rows = text.split("\n")
    for number in range(len(rows)):
        if not begin_a_book(rows[:number + 1]):
            return number
    return None if rows[-1].startswith("asker ") else len(rows)


def some_books(many):
    source = random.Random(71)
    told = [copy.deepcopy(BOOK)] + [some_book(source, wishes) for wishes in edge_wishes() + great_wishes()]
    return told + [some_book(source, wishes) for wishes in some_wishes(many, 7, 6)]


class ThereAndBack(unittest.TestCase):
    def test_told_ones(self):
        self.assertEqual(show_book(BOOK), TEXT)
        self.assertEqual(read_book(TEXT), BOOK)
        self.assertEqual(show_book((([0], [[]]), ["a"], ["a"])), "thing a 0\nasker a")
        self.assertEqual(read_book("thing a 0\nasker a"), (([0], [[]]), ["a"], ["a"]))
        wishes = ([1, 7, 1], [[[2, 0], [1]]])
        self.assertEqual(show_book((wishes, ["pear", "fig", "plum"], ["ann"])),
                         "thing pear 1\nthing fig 7\nthing plum 1\nasker ann plum=pear fig")
        self.assertEqual(read_book("thing plum 1\nthing pear 0\nthing fig 3\nasker ann pear=fig plum"),
                         (([1, 0, 3], [[[1, 2], [0]]]), ["plum", "pear", "fig"], ["ann"]))

    def test_what_is_written_is_read_back(self):
        for book in some_books(120):
            text = show_book(book)
            self.assertIs(type(text), str)
            self.assertIsNone(wanted_row(text))
            told = read_book(text)
            self.assertEqual(told, book)
            self.assertIs(type(told), tuple)
            self.assertEqual(show_book(told), text)

    def test_of_every_size(self):
        letters = "abcdefgh"
        for things in range(1, 7):
            for askers in range(1, 8):
                names = [letters[number] * 8 for number in range(7)]
                ranks = [[thing] for thing in range(things)][:5]
                book = (([7] * things, [copy.deepcopy(ranks) for asker in range(askers)]), names[:things], names[:askers])
                self.assertEqual(read_book(show_book(book)), book)

    def test_nothing_is_changed_or_kept(self):
        for book in some_books(20):
            text = same_each_time(self, show_book, copy.deepcopy(book))
            same_each_time(self, read_book, text)


class NoTexts(unittest.TestCase):
    def look_at(self, text):
        row = wanted_row(text)
        if row is None:
            self.assertEqual(show_book(read_book(text)), text)
        else:
            all_refused(self, NoText, {"row": row}, [(read_book, text)])
        return row

    def test_told_rows(self):
        rows = (
            ("", 0), ("\n", 0), (" ", 0), ("thing", 0), ("thing ", 0), ("thing a", 0), ("thing a ", 0), ("thing a 8", 0),
            ("thing a 1", 1), ("thing a 1\n", 1), ("thing a 1\nthing b 2", 2), ("thing a 1\n\nasker b", 1),
            ("\nthing a 1\nasker b", 0), ("thing a 1\nasker b\n", 2), ("asker b", 0), ("asker b\nthing a 1", 0),
            ("thing a 1\nasker b\nthing c 1", 2), ("thing a 1\nasker b a\nasker b", 2), ("thing a 1\nthing a 1\nasker b", 1),
            ("thing a 01\nasker b", 0), ("thing a -0\nasker b", 0), ("thing a +1\nasker b", 0), ("thing a 10\nasker b", 0),
            ("thing a -1\nasker b", 0), ("thing a 1 \nasker b", 0), (" thing a 1\nasker b", 0), ("thing  a 1\nasker b", 0),
            ("thing a  1\nasker b", 0), ("thing A 1\nasker b", 0), ("thing a1 1\nasker b", 0), ("Thing a 1\nasker b", 0),
            ("thing abcdefgh 1\nasker b", None), ("thing abcdefghi 1\nasker b", 0), ("thing a 1\nasker abcdefghi", 1),
            ("thing a 1\nasker b c", 1), ("thing a 1\nasker b a a", 1), ("thing a 1\nasker b a=a", 1),
            ("thing a 1\nasker b a=", 1), ("thing a 1\nasker b =a", 1), ("thing a 1\nasker b =", 1),
            ("thing a 1\nthing c 1\nasker b a==c", 2), ("thing a 1\nthing c 1\nasker b a= c", 2),
            ("thing a 1\nasker b ", 1), ("thing a 1\nasker b a ", 1), ("thing a 1\nasker b  a", 1), ("thing a 1\nasker", 1),
            ("thing a 1\nasker ", 1), ("thing a 1\nasker  a", 1), ("thing a 1\nasker B", 1), ("thing a 1\tasker b", 0),
            ("thing a 1\nasker b\ta", 1), ("thing\ta 1\nasker b", 0), ("thing a 1\nasker b; asker c", 1),
            ("thing a 1\nask b", 1), ("thing a 1\nasker b\nasker c\nasker d e", 3), ("thing a 1\nasker b\n\n", 2),
        )
        for text, row in rows:
            self.assertEqual(wanted_row(text), row, repr(text))
            self.look_at(text)

    def test_too_many(self):
        things = [f"thing {name} 1" for name in "abcdefg"]
        askers = [f"asker {name}" for name in "abcdefgh"]
        self.assertEqual(self.look_at("\n".join(things[:6] + askers[:7])), None)
        self.assertEqual(self.look_at("\n".join(things + askers[:7])), 6)
        self.assertEqual(self.look_at("\n".join(things[:6] + askers)), 13)
        self.assertEqual(self.look_at("\n".join(things[:6])), 6)
        self.assertEqual(self.look_at("\n".join(things)), 6)
        self.assertEqual(self.look_at("\n".join(things[:6] + ["asker a a b c d e=f"])), None)
        self.assertEqual(self.look_at("\n".join(things[:6] + ["asker a a b c d e f"])), 6)
        self.assertEqual(self.look_at("\n".join(things[:6] + ["asker b", "asker a a b c d e f"])), 7)

    def test_rows_told_twice_left_out_put_in_exchanged(self):
        source = random.Random(72)
        for book in some_books(25):
            rows = show_book(book).split("\n")
            texts = []
            for number in range(len(rows)):
                texts.append(rows[:number])
                texts.append(rows[:number] + rows[number + 1:])
                texts.append(rows[:number + 1] + rows[number:])
                texts.append(rows[:number] + [""] + rows[number:])
                texts.append(rows[:number + 1] + [source.choice(rows)] + rows[number + 1:])
                texts.append(rows[:number] + [source.choice(["thing new 1", "asker new", "thing", " "])] + rows[number:])
                other = source.randrange(len(rows))
                texts.append(list(rows))
                texts[-1][number], texts[-1][other] = rows[other], rows[number]
            met = [self.look_at("\n".join(text)) for text in texts]
            self.assertTrue(any(row is not None for row in met))

    def test_signs_put_in_taken_out_exchanged(self):
        source = random.Random(73)
        signs = "a bz=-07189\n\tA;~!"
        for book in some_books(8)[:1] + some_books(8)[-5:]:
            text = show_book(book)
            for place in range(len(text) + 1):
                self.look_at(text[:place] + text[place + 1:])
                self.look_at(text[:place])
                for sign in source.sample(signs, 5) + [" ", "\n", "="]:
                    self.look_at(text[:place] + sign + text[place:])
                    self.look_at(text[:place] + sign + text[place + 1:])

    def test_what_is_no_text(self):
        for odd in anything() + [[TEXT], (TEXT,), TEXT.encode(), TEXT.split("\n"), BOOK]:
            if not isinstance(odd, str):
                refused_with(self, NoText, {"row": 0}, read_book, odd)
        for odd in ("", "a", "firsts", "copies", "0", " "):
            refused_with(self, NoText, {"row": 0}, read_book, odd)


class NoBooks(unittest.TestCase):
    def test_what_is_no_book(self):
        for thing in wrong_books():
            refused_with(self, NoBook, {}, show_book, thing)

    def test_things_and_askers_may_be_called_alike(self):
        book = (([1, 1], [[[1]], [[0]]]), ["ann", "bob"], ["bob", "ann"])
        self.assertEqual(show_book(book), "thing ann 1\nthing bob 1\nasker bob bob\nasker ann ann")
        self.assertEqual(read_book(show_book(book)), book)


if __name__ == "__main__":
    unittest.main()
