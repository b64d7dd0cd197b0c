"""Levels: how many askers can be served within so many ranks."""

from wishdeal.search import best_by
from wishdeal.wishes import all_wishes, rank_in


def worths_within(wishes, ranks):
    """The wishes of the first so many ranks, each worth 1: tuples (asker, thing, 1), sorted."""
    return [(asker, thing, 1) for asker, thing in all_wishes(wishes) if rank_in(wishes[1][asker], thing) <= ranks]


def level_dealing(wishes, ranks):
    """A dealing that serves as many askers within so many ranks as can be, and gives nothing else."""
    return best_by(wishes, worths_within(wishes, ranks))


def level_of(wishes, ranks):
    """The greatest number of askers that one dealing serves within so many ranks."""
    return len([got for got in level_dealing(wishes, ranks) if got is not None])
