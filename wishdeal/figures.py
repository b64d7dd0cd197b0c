"""Whole numbers written by figures, and read."""

from wishdeal.errors import NoText

FIGURES = "0123456789"
MOST_FIGURES = 60


def show_number(number):
    """The text of a whole number."""
    return str(number)


def is_written_number(thing):
    """Whether anything is the one text of a whole number of at most sixty figures."""
    if not isinstance(thing, str):
        return False
    figures = thing.removeprefix("-")
    if not 1 <= len(figures) <= MOST_FIGURES:
        return False
    if not all([sign in FIGURES for sign in figures]):
        return False
    # A nought ahead, or -0, would be a second text of the same number.
    return figures[0] != "0" or thing == "0"


def read_number(text):
    """The whole number that a text writes, or NoText, of anything."""
    if not is_written_number(text):
        raise NoText(0)
    return int(text)
