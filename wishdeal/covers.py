"""Covers: askers and things without which no wish of so many ranks is left."""

from wishdeal.levels import worths_within
from wishdeal.names import above_nought, is_number_below
from wishdeal.search import best_by, paper_for
from wishdeal.wishes import look_at_wishes


def cover_for(wishes, ranks):
    """A cover that tells just the level within so many ranks."""
    worths = worths_within(wishes, ranks)
    # Where each wish is worth 1, no ask and no price in the paper is above 1, so it claims as much as the cover tells.
    times, asks, prices = paper_for(wishes, worths, best_by(wishes, worths))
    return (above_nought(asks), above_nought(prices))


def is_rising(thing, many):
    """Whether anything is a list of numbers below so many, each greater than the one ahead."""
    if not isinstance(thing, list) or not all([is_number_below(number, many) for number in thing]):
        return False
    return all([ahead < behind for ahead, behind in zip(thing, thing[1:])])


def lets_cover(wishes, ranks, thing):
    """Whether anything is a cover of the wishes of the first so many ranks."""
    worths = worths_within(wishes, ranks)
    if not isinstance(thing, tuple) or len(thing) != 2:
        return False
    askers, things = thing
    if not is_rising(askers, len(wishes[1])) or not is_rising(things, len(wishes[0])):
        return False
    return all([asker in askers or number in things for asker, number, worth in worths])


def size_of(wishes, cover):
    """The number of a cover's askers and the copies of its things, together."""
    look_at_wishes(wishes)
    askers, things = cover
    return len(askers) + sum([wishes[0][thing] for thing in things])
