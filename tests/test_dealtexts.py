"""Texts of dealings and of papers [28] [3] (j)."""

import copy
import random
import unittest

from tests.helper import (BOOK, all_dealings, all_refused, anything, edge_wishes, great_wishes, refused_with,
                          same_each_time, some_aims, some_book, some_wishes, wrong_books)
from wishdeal.best import best_dealing
from wishdeal.dealings import what_is_wrong
from wishdeal.dealtexts import read_dealing, read_paper, show_dealing, show_paper
from wishdeal.errors import NoBook, NoText
from wishdeal.webs import web_of

TEXT = "ann pear\nbob fig\ncy -\nfig -"


class Dealings(unittest.TestCase):
    def look_at(self, text, row, book=BOOK):
        all_refused(self, NoText, {"row": row}, [(read_dealing, book, text)])

    def test_told_ones(self):
        self.assertEqual(show_dealing(BOOK, [1, 0, None, None]), TEXT)
        self.assertEqual(read_dealing(BOOK, TEXT), [1, 0, None, None])
        self.assertEqual(show_dealing((([1], [[[0]]]), ["fig"], ["fig"]), [0]), "fig fig")
        self.assertEqual(read_dealing((([1], [[[0]]]), ["fig"], ["fig"]), "fig -"), [None])

    def test_what_is_written_is_read_back(self):
        source = random.Random(81)
        for wishes in edge_wishes()[:4] + some_wishes(50):
            book = some_book(source, wishes)
            for dealing in all_dealings(wishes)[::3]:
                text = show_dealing(book, dealing)
                self.assertIs(type(text), str)
                self.assertEqual(len(text.split("\n")), len(dealing))
                self.assertEqual(read_dealing(book, text), dealing)
        for wishes in great_wishes():
            book = some_book(source, wishes)
            dealing = best_dealing(wishes, ("full", None, []))[0]
            self.assertEqual(read_dealing(book, show_dealing(book, dealing)), dealing)

    def test_wrong_rows(self):
        rows = TEXT.split("\n")
        odd_rows = ["", " ", "ann", "ann ", "ann  fig", " ann fig", "ann fig ", "ann\tfig", "ann fig pear", "ann grape",
                    "ann --", "ann 0", "Ann fig", "ann Fig", "ann=fig", "zoe fig", "fig ann", "- fig", "ann fig=pear",
                    "ann None", "ann fi", "ann figs", "an fig", "anna fig", "ann pear;", "thing fig 1"]
        for number, name in enumerate(("ann", "bob", "cy", "fig")):
            for odd in odd_rows:
                # What is a row of the last asker, of its own name, is none of the others.
                text = odd.replace("ann", name)
                if text in (f"{name} fig", f"{name} pear", f"{name} plum", f"{name} -"):
                    continue
                self.look_at("\n".join(rows[:number] + [text] + rows[number + 1:]), number)
                self.look_at("\n".join(rows[:number] + [text]), number)
                self.look_at("\n".join(rows[:number] + [text] + rows), number)
                self.look_at("\n".join(rows[:number] + [text, text]), number)

    def test_rows_lack_or_are_too_many(self):
        rows = TEXT.split("\n")
        for number in range(1, 4):
            self.look_at("\n".join(rows[:number]), number)
        self.look_at("", 0)
        for more in ("", "fig -", "ann pear", "zoe", " "):
            self.look_at(TEXT + "\n" + more, 4)
            self.look_at(TEXT + "\n" + more + "\n" + more, 4)
        self.look_at("\n" + TEXT, 0)
        self.look_at("\n".join(rows[1:]), 0)
        self.look_at("\n".join(rows[:2] + rows[3:]), 2)
        self.look_at("\n".join(rows[:1] + rows[:1] + rows[1:]), 1)

    def test_no_dealing_of_the_book(self):
        # Not wished for; wished for, but there is no copy; too many.
        for text in ("ann pear\nbob plum\ncy -\nfig -", "ann pear\nbob fig\ncy fig\nfig -", "ann -\nbob -\ncy -\nfig plum",
                     "ann pear\nbob pear\ncy -\nfig -", "ann plum\nbob -\ncy -\nfig -"):
            self.look_at(text, 0)
        # What lacks, or is wrong, is told ahead of that.
        self.look_at("ann pear\nbob plum\ncy -", 3)
        self.look_at("ann pear\nbob pear\ncy -\nfig", 3)
        self.look_at("ann pear\nbob plum\ncy -\nfig -\n", 4)

    def test_each_text_of_names(self):
        source = random.Random(82)
        for wishes in some_wishes(30, 3, 3):
            book = some_book(source, wishes)
            for time in range(20):
                dealing = [source.choice([None] + list(range(len(book[1])))) for asker in book[2]]
                text = "\n".join(f"{name} {'-' if got is None else book[1][got]}" for name, got in zip(book[2], dealing))
                if what_is_wrong(wishes, dealing) is None:
                    self.assertEqual(read_dealing(book, text), dealing)
                else:
                    self.look_at(text, 0, book)

    def test_what_is_no_text(self):
        for odd in anything() + [[TEXT], TEXT.encode(), TEXT.split("\n"), (TEXT,), [1, 0, None, None]]:
            refused_with(self, NoText, {"row": 0}, read_dealing, BOOK, odd)

    def test_a_book_that_is_none_ahead_of_it(self):
        for thing in wrong_books():
            for odd in (TEXT, "", None, 0, []):
                refused_with(self, NoBook, {}, read_dealing, thing, odd)
                refused_with(self, NoBook, {}, show_dealing, thing, odd)

    def test_nothing_is_changed_or_kept(self):
        for dealing in all_dealings(BOOK[0]):
            text = same_each_time(self, show_dealing, *copy.deepcopy((BOOK, dealing)))
            same_each_time(self, read_dealing, copy.deepcopy(BOOK), text)


class Papers(unittest.TestCase):
    def look_at(self, text, row):
        all_refused(self, NoText, {"row": row}, [(read_paper, text)])

    def test_told_ones(self):
        self.assertEqual(show_paper((1, [20, 0], [3])), "times 1\nasks 20 0\nprices 3")
        self.assertEqual(read_paper("times 1\nasks 20 0\nprices 3"), (1, [20, 0], [3]))
        self.assertEqual(read_paper("times 12\nasks 0\nprices 0 0 0 0 0 0 0 0 0"), (12, [0], [0] * 9))

    def test_what_is_written_is_read_back(self):
        for wishes in edge_wishes() + great_wishes() + some_wishes(30):
            for aim in some_aims(wishes):
                for paper in (best_dealing(wishes, aim)[1], web_of(wishes, aim)[0]):
                    text = show_paper(paper)
                    self.assertIs(type(text), str)
                    told = read_paper(text)
                    self.assertEqual(told, paper)
                    self.assertIs(type(told), tuple)
        most = 10 ** 60 - 1
        paper = (most, [most] * 7, [0, most, 10 ** 59, 1, 2, 3])
        self.assertEqual(read_paper(show_paper(paper)), paper)

    def test_wrong_numbers(self):
        for word in ("", "-1", "-0", "00", "01", "+1", "1.0", "a", "1a", "-", "1_0", "1" * 61, " 1", "1 ", "\t1", "1\t",
                     "0x1", "None", "=", "--1", "1,2"):
            self.look_at(f"times {word}\nasks 1\nprices 1", 0)
            self.look_at(f"times 1\nasks {word}\nprices 1", 1)
            self.look_at(f"times 1\nasks 1 {word}\nprices 1", 1)
            self.look_at(f"times 1\nasks {word} 1\nprices 1", 1)
            self.look_at(f"times 1\nasks 1\nprices {word}", 2)
            self.look_at(f"times 1\nasks 1\nprices 0 {word}", 2)
        self.look_at("times 0\nasks 1\nprices 1", 0)
        self.look_at("times 1 1\nasks 1\nprices 1", 0)
        self.assertEqual(read_paper("times 1\nasks 0\nprices 0 1"), (1, [0], [0, 1]))
        self.assertEqual(read_paper(f"times {'9' * 60}\nasks 0\nprices 0"), (10 ** 60 - 1, [0], [0]))

    def test_wrong_words(self):
        rows = ["times 1", "asks 2 3", "prices 4"]
        for number, row in enumerate(rows):
            word = row.split(" ")[0]
            for odd in ("", " ", word, word + " ", word.upper() + " 1", " " + row, row + " ", row.replace(" ", "  ", 1),
                        row.replace(" ", "\t", 1), word[:-1] + " 1", word + "s 1", "1", word + "1", word + "=1",
                        rows[number - 1]):
                self.look_at("\n".join(rows[:number] + [odd] + rows[number + 1:]), number)
                self.look_at("\n".join(rows[:number] + [odd]), number)
                self.look_at("\n".join(rows[:number] + [odd] + rows), number)

    def test_rows_lack_or_are_too_many(self):
        self.look_at("", 0)
        self.look_at("times 1", 1)
        self.look_at("times 1\nasks 1", 2)
        self.look_at("times 1\n", 1)
        self.look_at("times 1\nasks 1\n", 2)
        self.look_at("times 1\nprices 1\nasks 1", 1)
        for more in ("", "prices 1", "times 1", " ", "\n"):
            self.look_at("times 1\nasks 1\nprices 1\n" + more, 3)
        self.look_at("\ntimes 1\nasks 1\nprices 1", 0)

    def test_what_is_no_text(self):
        for odd in anything() + [(1, [1], [1]), b"times 1\nasks 1\nprices 1", ["times 1", "asks 1", "prices 1"]]:
            refused_with(self, NoText, {"row": 0}, read_paper, odd)

    def test_nothing_is_changed_or_kept(self):
        for paper in ((1, [2, 3], [4]), (7, [0], [0, 0, 10 ** 39])):
            text = same_each_time(self, show_paper, copy.deepcopy(paper))
            same_each_time(self, read_paper, text)


if __name__ == "__main__":
    unittest.main()
