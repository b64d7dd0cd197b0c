"""Books, which are wishes with names, and their texts."""

from wishdeal.errors import NoBook, NoText, NoWishes
from wishdeal.figures import read_number, show_number
from wishdeal.names import is_name
from wishdeal.wishes import MOST_ASKERS, MOST_COPIES, MOST_THINGS, is_asker_list, look_at_wishes


def are_names(thing, many):
    """Whether anything is a list of so many names, unlike each other."""
    if not isinstance(thing, list) or len(thing) != many:
        return False
    return all([is_name(name) for name in thing]) and len(set(thing)) == many


def look_at_book(thing):
    """None where it is a book, or NoBook, of anything."""
    if not isinstance(thing, tuple) or len(thing) != 3:
        raise NoBook("no tuple of wishes and names")
    wishes, things, askers = thing
    try:
        look_at_wishes(wishes)
    except NoWishes:
        raise NoBook("no wishes in it") from None
    copies, lists = wishes
    if not are_names(things, len(copies)) or not are_names(askers, len(lists)):
        raise NoBook("no unlike names for all things and askers")


def show_asker(name, ranks, things):
    """The row of an asker."""
    return " ".join(["asker", name] + ["=".join([things[thing] for thing in rank]) for rank in ranks])


def show_book(book):
    """The text of a book, or NoBook, of anything."""
    look_at_book(book)
    wishes, things, askers = book
    copies, lists = wishes
    rows = [f"thing {name} {show_number(many)}" for name, many in zip(things, copies)]
    return "\n".join(rows + [show_asker(name, ranks, things) for name, ranks in zip(askers, lists)])


def names_in_rank(word):
    """The names that stand in the word of a rank, perhaps no names."""
    return word.split("=")


def ranks_by_names(words, things):
    """The list of an asker by the words of its ranks, of names of things that are there."""
    return [[things.index(name) for name in names_in_rank(word)] for word in words]


def tells_thing(words, things):
    """Whether the words of a row may tell a thing behind these ones."""
    if len(words) != 3 or words[0] != "thing" or len(things) == MOST_THINGS:
        return False
    if not is_name(words[1]) or words[1] in things:
        return False
    return words[2] in [show_number(many) for many in range(MOST_COPIES + 1)]


def tells_asker(words, things, askers):
    """Whether the words of a row may tell an asker behind these things and askers."""
    if len(words) < 2 or words[0] != "asker" or len(things) == 0 or len(askers) == MOST_ASKERS:
        return False
    if not is_name(words[1]) or words[1] in askers:
        return False
    if not all([name in things for word in words[2:] for name in names_in_rank(word)]):
        return False
    return is_asker_list(ranks_by_names(words[2:], things), len(things))


def read_book(text):
    """The book that a text writes, or NoText, of anything."""
    if not isinstance(text, str):
        raise NoText(0)
    copies, lists, things, askers = [], [], [], []
    rows = text.split("\n")
    for number, row in enumerate(rows):
        words = row.split(" ")
        if len(askers) == 0 and tells_thing(words, things):
            things.append(words[1])
            copies.append(read_number(words[2]))
        elif tells_asker(words, things, askers):
            askers.append(words[1])
            lists.append(ranks_by_names(words[2:], things))
        else:
            raise NoText(number)
    if len(askers) == 0:
        raise NoText(len(rows))
    return ((copies, lists), things, askers)
