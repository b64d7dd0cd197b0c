"""Worths: whole numbers by which a dealing is better just where it is worth more."""

from wishdeal.aims import look_at_aim
from wishdeal.wishes import all_wishes, longest, rank_in


def power(base, times):
    """A whole number multiplied by itself so many times, 1 of none."""
    told = 1
    for step in range(times):
        told *= base
    return told


def worth_by_order(order, base, most, rank):
    """What a wish of a rank is worth by the order alone, most being the ranks of the longest list."""
    if order == "firsts":
        return power(base, most - rank)
    if order == "full":
        return power(base, most) + power(base, most - rank)
    return power(base, most) - power(base, rank - 1)


def worth_by_turns(turns, base, asker, rank):
    """What a wish of a rank is worth by the asker's turn, base being one more than the greatest rank."""
    if asker not in turns:
        return 0
    behind = len(turns) - 1 - turns.index(asker)
    return (base - rank) * power(base, behind)


def worth_by_aim(wishes, aim, most, asker, thing):
    """What a wish is worth, of wishes and an aim that are looked at, most being the ranks of the longest list."""
    order, old, turns = aim
    lists = wishes[1]
    rank = rank_in(lists[asker], thing)
    base = len(lists) + 1
    kept = 1 if old is not None and old[asker] == thing else 0
    by_counts = worth_by_order(order, base, most, rank) * base + kept
    return by_counts * power(most + 1, len(turns)) + worth_by_turns(turns, most + 1, asker, rank)


def worth_of_wish(wishes, aim, asker, thing):
    """What a wish is worth by an aim."""
    look_at_aim(wishes, aim)
    return worth_by_aim(wishes, aim, longest(wishes), asker, thing)


def all_worths(wishes, aim):
    """All wishes with their worths, tuples (asker, thing, worth), sorted."""
    look_at_aim(wishes, aim)
    most = longest(wishes)
    return [(asker, thing, worth_by_aim(wishes, aim, most, asker, thing)) for asker, thing in all_wishes(wishes)]


def worth_of(wishes, aim, dealing):
    """What a dealing is worth by an aim."""
    look_at_aim(wishes, aim)
    most = longest(wishes)
    return sum([worth_by_aim(wishes, aim, most, asker, got) for asker, got in enumerate(dealing) if got is not None])
