"""Turned: askers and things called by other numbers."""

from wishdeal.aims import look_at_aim
from wishdeal.errors import NoNumbering
from wishdeal.names import is_number_below
from wishdeal.wishes import look_at_wishes


def is_numbering(thing, many):
    """Whether anything is a list of the numbers from 0 to below so many, each once."""
    if not isinstance(thing, list) or len(thing) != many:
        return False
    if not all([is_number_below(number, many) for number in thing]):
        return False
    return len(set(thing)) == many


def look_at_numberings(wishes, askers, things):
    """None where they are numberings of the askers and of the things, or NoNumbering, of anything."""
    look_at_wishes(wishes)
    copies, lists = wishes
    if not is_numbering(askers, len(lists)) or not is_numbering(things, len(copies)):
        raise NoNumbering("no numberings of the askers and the things")


def placed(row, numbering):
    """A list in which what stands at k in the row stands at the number that k is called by."""
    told = list(row)
    for place, number in enumerate(numbering):
        told[number] = row[place]
    return told


def called(got, things):
    """What a thing is called, None of nothing."""
    return None if got is None else things[got]


def placed_dealing(dealing, askers, things):
    """A dealing by numberings that are looked at."""
    return placed([called(got, things) for got in dealing], askers)


def placed_paper(paper, askers, things):
    """A paper by numberings that are looked at."""
    times, asks, prices = paper
    return (times, placed(asks, askers), placed(prices, things))


def turned_wishes(wishes, askers, things):
    """The wishes by the numberings, within each rank the things rising; or NoNumbering."""
    look_at_numberings(wishes, askers, things)
    copies, lists = wishes
    renamed = [[sorted([things[thing] for thing in rank]) for rank in ranks] for ranks in lists]
    return (placed(copies, things), placed(renamed, askers))


def turned_aim(wishes, aim, askers, things):
    """An aim by the numberings, or NoNumbering."""
    look_at_aim(wishes, aim)
    look_at_numberings(wishes, askers, things)
    order, old, turns = aim
    turned_old = None if old is None else placed_dealing(old, askers, things)
    return (order, turned_old, [askers[asker] for asker in turns])


def turned_dealing(wishes, dealing, askers, things):
    """A dealing by the numberings, or NoNumbering."""
    look_at_numberings(wishes, askers, things)
    return placed_dealing(dealing, askers, things)


def turned_way(wishes, way, askers, things):
    """A way by the numberings, or NoNumbering."""
    look_at_numberings(wishes, askers, things)
    return [(askers[asker], called(taken, things)) for asker, taken in way]


def turned_paper(wishes, paper, askers, things):
    """A paper by the numberings, or NoNumbering."""
    look_at_numberings(wishes, askers, things)
    return placed_paper(paper, askers, things)


def turned_web(wishes, web, askers, things):
    """A web by the numberings, or NoNumbering."""
    look_at_numberings(wishes, askers, things)
    paper, dealings = web
    return (placed_paper(paper, askers, things), [placed_dealing(dealing, askers, things) for dealing in dealings])
