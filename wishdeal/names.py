"""Whole numbers and names."""

LETTERS = "abcdefghijklmnopqrstuvwxyz"
MOST_LETTERS = 8


def is_whole(thing):
    """Whether anything is a whole number."""
    # Python's truths are ints as well, but they number nothing here.
    return isinstance(thing, int) and not isinstance(thing, bool)


def is_number(thing):
    """Whether anything is a whole number from 0 on."""
    return is_whole(thing) and thing >= 0


def are_numbers(things, many):
    """Whether a list or tuple is of so many things, all of them whole numbers from 0 on."""
    return len(things) == many and all([is_number(thing) for thing in things])


def above_nought(numbers):
    """The places at which numbers above 0 stand in a list, rising."""
    return [place for place, number in enumerate(numbers) if number > 0]


def is_number_below(thing, many):
    """Whether anything is a whole number from 0 to below many."""
    return is_whole(thing) and 0 <= thing < many


def is_name(thing):
    """Whether anything is a name: one to eight small letters."""
    if not isinstance(thing, str) or not 1 <= len(thing) <= MOST_LETTERS:
        return False
    return all([sign in LETTERS for sign in thing])
