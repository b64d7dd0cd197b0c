"""Mends: a best dealing behind a change that moves as few askers as can be."""

from wishdeal.best import best_dealing
from wishdeal.changes import carried, changed
from wishdeal.orders import look_at_order
from wishdeal.wishes import look_at_wishes


def mended(wishes, change, order, dealing):
    """A tuple (changed wishes, best dealing, moved askers, paper); or NoAim, then NoChange."""
    look_at_wishes(wishes)
    look_at_order(order)
    now = changed(wishes, change)
    old = carried(wishes, change, dealing)
    best, paper = best_dealing(now, (order, old, []))
    moved = [asker for asker, had in enumerate(old) if had is not None and best[asker] != had]
    return (now, best, moved, paper)
