"""Partings: the ways by which one dealing becomes another one."""

from wishdeal.wishes import look_at_wishes


def moved_askers(one, other):
    """The askers that have not the same in both dealings, rising."""
    return [asker for asker, had in enumerate(one) if had != other[asker]]


def followers(things, one, other):
    """For moved askers the one that stands behind each: it has the thing that the one ahead takes."""
    moved = moved_askers(one, other)
    told = {}
    for thing in range(things):
        takers = [asker for asker in moved if other[asker] == thing]
        givers = [asker for asker in moved if one[asker] == thing]
        # As many as can be are paired: so no way ends at a thing at which another one begins, and none waits for one.
        for taker, giver in zip(takers, givers):
            told[taker] = giver
    return told


def way_from(first, behind, other):
    """The takings from a first asker on, through those behind, to the last one or round to the first."""
    told = [(first, other[first])]
    asker = behind.get(first)
    while asker is not None and asker != first:
        told.append((asker, other[asker]))
        asker = behind.get(asker)
    return told


def ways_between(wishes, one, other):
    """Ways of the first dealing that lead, in any order, to the second one."""
    look_at_wishes(wishes)
    behind = followers(len(wishes[0]), one, other)
    led_to = list(behind.values())
    moved = moved_askers(one, other)
    # A row must be begun at its head, a round may be begun anywhere: so all rows are told ahead of the rounds.
    firsts = [asker for asker in moved if asker not in led_to] + [asker for asker in moved if asker in led_to]
    told = []
    met = []
    for first in firsts:
        if first not in met:
            way = way_from(first, behind, other)
            met.extend([asker for asker, taken in way])
            told.append(way)
    return told
