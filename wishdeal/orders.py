"""Orders of counts: by which one row of counts is better than another one."""

from wishdeal.errors import NoAim

ORDERS = ("firsts", "full", "lasts")


def is_order(thing):
    """Whether anything is an order."""
    return isinstance(thing, str) and thing in ORDERS


def look_at_order(thing):
    """None where it is an order, or NoAim, of anything."""
    if not is_order(thing):
        raise NoAim("order")


def gaps(order, one, other):
    """For each place, the one that decides first ahead, by how much the one row is better there."""
    more = [mine - yours for mine, yours in zip(one, other)]
    if order == "firsts":
        return more
    less = [-gap for gap in more]
    if order == "full":
        return less[-1:] + more
    return less[::-1]


def beside_by(order, one, other):
    """What the one row of counts is beside the other one: `better`, `worse` or `alike`."""
    look_at_order(order)
    for gap in gaps(order, one, other):
        if gap != 0:
            return "better" if gap > 0 else "worse"
    return "alike"
