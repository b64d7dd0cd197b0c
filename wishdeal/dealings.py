"""Dealings: what each asker gets, and what is counted of it."""

from wishdeal.names import is_whole
from wishdeal.wishes import longest, look_at_wishes, rank_in


def has_form(thing, askers):
    """Whether anything is a list of so many whole numbers and Nones."""
    if not isinstance(thing, list) or len(thing) != askers:
        return False
    return all([got is None or is_whole(got) for got in thing])


def what_is_wrong(wishes, thing):
    """What is wrong with anything as a dealing, a tuple, or None."""
    look_at_wishes(wishes)
    copies, lists = wishes
    if not has_form(thing, len(lists)):
        return ("form",)
    for asker, got in enumerate(thing):
        if got is not None and rank_in(lists[asker], got) == 0:
            return ("wish", asker)
    for number, many in enumerate(copies):
        if thing.count(number) > many:
            return ("copies", number)
    return None


def ranks_got(wishes, dealing):
    """For each asker the rank of what it gets, 0 of one that gets nothing."""
    look_at_wishes(wishes)
    return [rank_in(wishes[1][asker], got) for asker, got in enumerate(dealing)]


def counts_of(wishes, dealing):
    """For each rank how many get a thing of it, then how many get nothing."""
    got = ranks_got(wishes, dealing)
    return [got.count(rank) for rank in range(1, longest(wishes) + 1)] + [got.count(0)]


def copies_left(wishes, dealing):
    """For each thing how many of its copies are left."""
    look_at_wishes(wishes)
    return [many - dealing.count(thing) for thing, many in enumerate(wishes[0])]
