"""Wishes: a tuple of the copies of each thing and the list of each asker."""

from wishdeal.errors import NoWishes
from wishdeal.names import is_number_below

MOST_THINGS = 6
MOST_COPIES = 7
MOST_ASKERS = 7
MOST_RANKS = 5


def look_at_copies(copies):
    """None, or NoWishes, of anything in the stead of copies."""
    if not isinstance(copies, list) or not 1 <= len(copies) <= MOST_THINGS:
        raise NoWishes("copies", None)
    for number, many in enumerate(copies):
        if not is_number_below(many, MOST_COPIES + 1):
            raise NoWishes("copies", number)


def is_rank(thing, things):
    """Whether anything is a list of one or more numbers of so many things."""
    if not isinstance(thing, list) or len(thing) == 0:
        return False
    return all([is_number_below(number, things) for number in thing])


def is_asker_list(thing, things):
    """Whether anything is an asker's list for so many things."""
    if not isinstance(thing, list) or len(thing) > MOST_RANKS:
        return False
    if not all([is_rank(rank, things) for rank in thing]):
        return False
    wished = [number for rank in thing for number in rank]
    return len(set(wished)) == len(wished)


def look_at_lists(lists, things):
    """None, or NoWishes, of anything in the stead of the lists for so many things."""
    if not isinstance(lists, list) or not 1 <= len(lists) <= MOST_ASKERS:
        raise NoWishes("lists", None)
    for asker, ranks in enumerate(lists):
        if not is_asker_list(ranks, things):
            raise NoWishes("lists", asker)


def look_at_wishes(thing):
    """None where it is wishes, or NoWishes, of anything."""
    if not isinstance(thing, tuple) or len(thing) != 2:
        raise NoWishes("wishes", None)
    copies, lists = thing
    look_at_copies(copies)
    look_at_lists(lists, len(copies))


def copied_wishes(wishes):
    """The same wishes, each list of them a new one."""
    copies, lists = wishes
    return (list(copies), [[list(rank) for rank in ranks] for ranks in lists])


def rank_in(ranks, thing):
    """The number of the rank in which a whole number stands, 0 where it stands in none (None, too)."""
    for number, rank in enumerate(ranks, start=1):
        if thing in rank:
            return number
    return 0


def rank_of(wishes, asker, thing):
    """The rank of a thing for an asker, 0 where it isn't wished for."""
    look_at_wishes(wishes)
    return rank_in(wishes[1][asker], thing)


def longest(wishes):
    """How many ranks the longest list has."""
    look_at_wishes(wishes)
    return max([len(ranks) for ranks in wishes[1]])


def all_wishes(wishes):
    """All wishes, tuples (asker, thing), sorted."""
    look_at_wishes(wishes)
    return sorted([(asker, thing) for asker, ranks in enumerate(wishes[1]) for rank in ranks for thing in rank])
