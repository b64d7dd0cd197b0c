"""A desk, which keeps a book and answers rows of words."""

from wishdeal.booktexts import names_in_rank, ranks_by_names, read_book, show_book
from wishdeal.counting import how_many
from wishdeal.dealtexts import NOTHING, is_written_from_nought, name_of
from wishdeal.errors import NoBook, NoChange, NoName, NoRow
from wishdeal.figures import read_number, show_number
from wishdeal.keeper import Keeper
from wishdeal.levels import level_of
from wishdeal.names import is_name
from wishdeal.orders import is_order
from wishdeal.webs import may_get, web_of

MOST_FIGURES = 4
ROW_END = "; "
DONE = "ok"

# By the first word of a row the kinds of those behind it; of ranks there may be any number.
FORMS = {
    "show": (),
    "who": ("thing",),
    "has": ("asker",),
    "counts": (),
    "may": ("asker",),
    "many": (),
    "wish": ("asker", "ranks"),
    "copies": ("thing", "number"),
    "come": ("comer", "ranks"),
    "go": ("asker",),
    "undo": (),
    "level": ("number",),
}


def kinds_behind(word, many):
    """The kinds of the words behind a first one, ranks as many as so many words leave room for."""
    kinds = list(FORMS[word])
    if "ranks" not in kinds:
        return kinds
    named = kinds[:-1]
    return named + ["rank"] * (many - len(named))


def is_of_kind(kind, word):
    """Whether a word has the form of its kind."""
    if kind == "number":
        return len(word) <= MOST_FIGURES and is_written_from_nought(word)
    if kind == "rank":
        return all([is_name(name) for name in names_in_rank(word)])
    return is_name(word)


def is_there(desk, kind, word):
    """Whether the names in a word of its kind are those of the desk's book, where they are to be."""
    if kind == "asker":
        return word in desk.askers
    if kind == "thing":
        return word in desk.things
    if kind == "rank":
        return all([name in desk.things for name in names_in_rank(word)])
    return True


def in_one_row(words):
    """Words with a blank between two, `-` where there are none."""
    return " ".join(words) if words else NOTHING


def plain_aim(desk):
    """The aim of the desk's order alone."""
    return (desk.order, None, [])


def tell_change(desk, change, askers):
    """Do a change, behind which the askers have these names; the names of those that are moved."""
    moved = desk.keeper.change(change)
    desk.past.append(desk.askers)
    desk.askers = askers
    return in_one_row([askers[asker] for asker in moved])


def say_show(desk, words):
    """The book's text in one row."""
    return show_book((desk.keeper.wishes(), desk.things, desk.askers)).replace("\n", ROW_END)


def say_who(desk, words):
    """Who has a thing."""
    thing = desk.things.index(words[0])
    return in_one_row([name for name, got in zip(desk.askers, desk.keeper.dealing()) if got == thing])


def say_has(desk, words):
    """What an asker has."""
    return name_of(desk.keeper.dealing()[desk.askers.index(words[0])], desk.things)


def say_counts(desk, words):
    """The counts."""
    return in_one_row([show_number(many) for many in desk.keeper.counts()])


def say_may(desk, words):
    """What an asker may get."""
    wishes = desk.keeper.wishes()
    aim = plain_aim(desk)
    things, nothing = may_get(wishes, aim, web_of(wishes, aim), desk.askers.index(words[0]))
    return in_one_row([desk.things[thing] for thing in things] + ([NOTHING] if nothing else []))


def say_many(desk, words):
    """How many best dealings there are."""
    return show_number(how_many(desk.keeper.wishes(), plain_aim(desk)))


def say_wish(desk, words):
    """An asker's list is another one."""
    change = ("list", desk.askers.index(words[0]), ranks_by_names(words[1:], desk.things))
    return tell_change(desk, change, desk.askers)


def say_copies(desk, words):
    """A thing's copies are so many."""
    return tell_change(desk, ("copies", desk.things.index(words[0]), read_number(words[1])), desk.askers)


def say_come(desk, words):
    """An asker comes."""
    if words[0] in desk.askers:
        raise NoChange("an asker of that name is there")
    return tell_change(desk, ("come", ranks_by_names(words[1:], desk.things)), desk.askers + [words[0]])


def say_go(desk, words):
    """An asker goes."""
    asker = desk.askers.index(words[0])
    return tell_change(desk, ("go", asker), desk.askers[:asker] + desk.askers[asker + 1:])


def say_undo(desk, words):
    """The last change is undone."""
    desk.keeper.undo()
    desk.askers = desk.past.pop()
    return DONE


def say_level(desk, words):
    """The level within so many ranks."""
    return show_number(level_of(desk.keeper.wishes(), read_number(words[0])))


DEEDS = {
    "show": say_show,
    "who": say_who,
    "has": say_has,
    "counts": say_counts,
    "may": say_may,
    "many": say_many,
    "wish": say_wish,
    "copies": say_copies,
    "come": say_come,
    "go": say_go,
    "undo": say_undo,
    "level": say_level,
}


def say_book(desk, rest):
    """The book that is told behind the word and its blank is kept."""
    order, blank, text = rest.partition(" ")
    if not is_order(order) or blank == "":
        raise NoRow("no order with a blank behind it")
    wishes, things, askers = read_book(text.replace(ROW_END, "\n"))
    desk.keeper = Keeper(wishes, order)
    desk.order = order
    desk.things = things
    desk.askers = askers
    desk.past = []
    return DONE


def kinds_of_row(words):
    """The kinds of the words behind the first one, or NoRow."""
    if words[0] not in FORMS:
        raise NoRow("no such word")
    kinds = kinds_behind(words[0], len(words) - 1)
    if len(kinds) != len(words) - 1:
        raise NoRow("too few words, or too many")
    if not all([is_of_kind(kind, word) for kind, word in zip(kinds, words[1:])]):
        raise NoRow("a word that is none of its kind")
    return kinds


class Desk:
    """A desk with a book, none at first, its order, a keeper, and the askers' names ahead of each change."""

    def __init__(self):
        self.keeper = None
        self.order = None
        self.things = []
        self.askers = []
        self.past = []

    def say(self, row):
        """The answer to a row, a text; or NoRow, NoBook, NoName, then NoText, NoChange or NoDeed, of anything."""
        if not isinstance(row, str) or "\n" in row:
            raise NoRow("no text of one row")
        if row.startswith("book "):
            return say_book(self, row.removeprefix("book "))
        words = row.split(" ")
        kinds = kinds_of_row(words)
        if self.keeper is None:
            raise NoBook("no book is kept")
        if not all([is_there(self, kind, word) for kind, word in zip(kinds, words[1:])]):
            raise NoName("a name that isn't there")
        deed = DEEDS[words[0]]
        return deed(self, words[1:])
