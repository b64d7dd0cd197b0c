"""Singles: each copy told as a thing of its own."""

from wishdeal.errors import NoJoin
from wishdeal.wishes import MOST_THINGS, look_at_wishes


def look_at_copies_in_all(wishes):
    """None where each copy may be a thing of its own, or NoJoin."""
    look_at_wishes(wishes)
    if not 1 <= sum(wishes[0]) <= MOST_THINGS:
        raise NoJoin("copy by copy there would be no thing, or too many")


def numbers_of_copies(copies):
    """For each thing the numbers of its copies, rising."""
    told = []
    ahead = 0
    for many in copies:
        told.append(list(range(ahead, ahead + many)))
        ahead += many
    return told


def singled(wishes):
    """The wishes copy by copy, or NoJoin."""
    look_at_copies_in_all(wishes)
    copies, lists = wishes
    numbers = numbers_of_copies(copies)
    told = []
    for ranks in lists:
        by_copy = [[number for thing in rank for number in numbers[thing]] for rank in ranks]
        told.append([rank for rank in by_copy if rank])
    return ([1] * sum(copies), told)


def singled_dealing(wishes, dealing):
    """A dealing copy by copy, the lesser asker getting the lesser copy; or NoJoin."""
    look_at_copies_in_all(wishes)
    left = numbers_of_copies(wishes[0])
    told = []
    for got in dealing:
        told.append(None if got is None else left[got].pop(0))
    return told


def whole_dealing(wishes, dealing):
    """A dealing of the wishes copy by copy, told back in whole things; or NoJoin."""
    look_at_copies_in_all(wishes)
    things = [thing for thing, numbers in enumerate(numbers_of_copies(wishes[0])) for number in numbers]
    return [None if got is None else things[got] for got in dealing]
