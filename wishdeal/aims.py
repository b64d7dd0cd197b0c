"""Aims: an order, an elder dealing to keep, askers who choose by turns."""

from wishdeal.dealings import counts_of, ranks_got
from wishdeal.errors import NoAim
from wishdeal.names import is_number_below
from wishdeal.orders import beside_by, look_at_order
from wishdeal.wishes import look_at_wishes


def is_old(thing, askers, things):
    """Whether anything is None, or tells None or a thing for each of so many askers."""
    if thing is None:
        return True
    if not isinstance(thing, list) or len(thing) != askers:
        return False
    return all([kept is None or is_number_below(kept, things) for kept in thing])


def is_turns(thing, askers):
    """Whether anything is a list of unlike ones of so many askers."""
    if not isinstance(thing, list) or not all([is_number_below(asker, askers) for asker in thing]):
        return False
    return len(set(thing)) == len(thing)


def look_at_aim(wishes, thing):
    """None where it is an aim for the wishes, or NoAim, of anything."""
    look_at_wishes(wishes)
    if not isinstance(thing, tuple) or len(thing) != 3:
        raise NoAim("aim")
    copies, lists = wishes
    order, old, turns = thing
    look_at_order(order)
    if not is_old(old, len(lists), len(copies)):
        raise NoAim("old")
    if not is_turns(turns, len(lists)):
        raise NoAim("turns")


def how_many_kept(old, dealing):
    """How many askers get the very thing that old tells for them."""
    if old is None:
        return 0
    return len([thing for thing, got in zip(old, dealing) if thing is not None and got == thing])


def score_of(wishes, aim, dealing):
    """The score of a dealing by an aim, a tuple (counts, kept, ranks)."""
    look_at_aim(wishes, aim)
    order, old, turns = aim
    got = ranks_got(wishes, dealing)
    return (counts_of(wishes, dealing), how_many_kept(old, dealing), [got[asker] for asker in turns])


def is_better_by_turns(one, other):
    """Whether the one row of ranks is better than the other one, 0 being nothing."""
    for mine, yours in zip(one, other):
        if mine != yours:
            return yours == 0 or 0 < mine < yours
    return False


def is_better(wishes, aim, one, other):
    """Whether the one dealing is better by the aim than the other one."""
    counts, kept, ranks = score_of(wishes, aim, one)
    other_counts, other_kept, other_ranks = score_of(wishes, aim, other)
    beside = beside_by(aim[0], counts, other_counts)
    if beside != "alike":
        return beside == "better"
    if kept != other_kept:
        return kept > other_kept
    return is_better_by_turns(ranks, other_ranks)
