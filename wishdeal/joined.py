"""Joined: wishes, and dealings, beside one another."""

from wishdeal.errors import NoJoin, NoWishes
from wishdeal.wishes import copied_wishes, look_at_wishes


def wishes_beside(one, other):
    """The wishes of both, the other's things and askers behind the one's; or NoJoin."""
    look_at_wishes(one)
    look_at_wishes(other)
    copies, lists = one
    other_copies, other_lists = other
    behind = [[[len(copies) + thing for thing in rank] for rank in ranks] for ranks in other_lists]
    told = (copies + other_copies, lists + behind)
    try:
        look_at_wishes(told)
    except NoWishes:
        raise NoJoin("beside one another they would be no wishes") from None
    return copied_wishes(told)


def dealings_beside(one_wishes, one, other):
    """The one dealing, then the other one, its things numbered behind those of the one's wishes."""
    look_at_wishes(one_wishes)
    things = len(one_wishes[0])
    return one + [None if got is None else things + got for got in other]
