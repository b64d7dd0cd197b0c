"""Texts of dealings, by the names of a book, and of papers."""

from wishdeal.booktexts import look_at_book
from wishdeal.dealings import what_is_wrong
from wishdeal.errors import NoText
from wishdeal.figures import is_written_number, read_number, show_number

NOTHING = "-"
PAPER_WORDS = ("times", "asks", "prices")


def rows_of(text):
    """The rows of a text, or NoText, of anything."""
    if not isinstance(text, str):
        raise NoText(0)
    return text.split("\n")


def name_of(got, things):
    """The name of what an asker has, by the names of the things."""
    return NOTHING if got is None else things[got]


def show_dealing(book, dealing):
    """The text of a dealing of a book."""
    look_at_book(book)
    wishes, things, askers = book
    return "\n".join([f"{name} {name_of(got, things)}" for name, got in zip(askers, dealing)])


def read_dealing(book, text):
    """The dealing of a book that a text writes, or NoText, of anything as text."""
    look_at_book(book)
    wishes, things, askers = book
    whats = {name: thing for thing, name in enumerate(things)}
    whats[NOTHING] = None
    dealing = []
    for number, row in enumerate(rows_of(text)):
        name, blank, what = row.partition(" ")
        if number == len(askers) or name != askers[number] or what not in whats:
            raise NoText(number)
        dealing.append(whats[what])
    if len(dealing) < len(askers):
        raise NoText(len(dealing))
    if what_is_wrong(wishes, dealing) is not None:
        raise NoText(0)
    return dealing


def show_numbers(word, numbers):
    """A row of a word and the numbers behind it."""
    return " ".join([word] + [show_number(number) for number in numbers])


def show_paper(paper):
    """The text of a paper."""
    times, asks, prices = paper
    return "\n".join([show_numbers(word, row) for word, row in zip(PAPER_WORDS, [[times], asks, prices])])


def is_written_from_nought(text):
    """Whether a text writes a whole number from 0 on."""
    return is_written_number(text) and not text.startswith("-")


def read_numbers(word, row):
    """The numbers from 0 on that a row tells behind its word, none where it isn't such a row."""
    words = row.split(" ")
    if words[0] != word or not all([is_written_from_nought(text) for text in words[1:]]):
        return []
    return [read_number(text) for text in words[1:]]


def is_paper_row(number, numbers):
    """Whether numbers may stand in the row of its number of a paper's text: in the first one, 1 or more alone."""
    if number == 0:
        return len(numbers) == 1 and numbers[0] >= 1
    return len(numbers) >= 1


def read_paper(text):
    """The tuple of a number and two lists that a text writes, or NoText, of anything."""
    told = []
    for number, row in enumerate(rows_of(text)):
        if number == len(PAPER_WORDS):
            raise NoText(number)
        numbers = read_numbers(PAPER_WORDS[number], row)
        if not is_paper_row(number, numbers):
            raise NoText(number)
        told.append(numbers)
    if len(told) < len(PAPER_WORDS):
        raise NoText(len(told))
    times, asks, prices = told
    return (times[0], asks, prices)
