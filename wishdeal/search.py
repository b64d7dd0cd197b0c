"""Search: the steps by which a dealing may be left, walks along them, and by these ways that gain, or prices.

The places of a dealing are its things and, numbered behind them, nothing, where all that have nothing are. A step is a
tuple (ahead, behind, gain, asker): the asker goes from the one place to the other one, and so much worth is gained. Of
a copy that goes the asker is None. Worths are told as by all_worths, perhaps of some of the wishes alone.
"""

from wishdeal.dealings import copies_left
from wishdeal.ways import behind_way


def place_of(nothing, got):
    """The place of an asker, by what it has."""
    return nothing if got is None else got


def steps_of_askers(nothing, worths, dealing):
    """The steps of the askers, each to nothing or to what it wishes for, from what it has."""
    had = [0] * len(dealing)
    for asker, thing, worth in worths:
        if dealing[asker] == thing:
            had[asker] = worth
    told = [(got, nothing, -had[asker], asker) for asker, got in enumerate(dealing) if got is not None]
    for asker, thing, worth in worths:
        if dealing[asker] != thing:
            told.append((place_of(nothing, dealing[asker]), thing, worth - had[asker], asker))
    return told


def steps_of_copies(wishes, dealing):
    """The steps of copies: one that is left makes good for nothing, and any that is given up is left."""
    nothing = len(wishes[0])
    left = copies_left(wishes, dealing)
    to_nothing = [(thing, nothing, 0, None) for thing, many in enumerate(left) if many > 0]
    return to_nothing + [(nothing, thing, 0, None) for thing in range(nothing)]


def all_steps(wishes, worths, dealing):
    """All steps by which a dealing may be left."""
    return steps_of_askers(len(wishes[0]), worths, dealing) + steps_of_copies(wishes, dealing)


def longer_walks(walks, steps):
    """For each place the walk to it of most gain, out of these and those of one step more: tuples (gain, steps)."""
    told = list(walks)
    for step in steps:
        ahead, behind, gain, asker = step
        gained, walked = walks[ahead]
        if gained + gain > told[behind][0]:
            told[behind] = (gained + gain, walked + [step])
    return told


def widest_walks(places, steps):
    """For each place the walk to it, from anywhere, of most gain, of as many steps at most as there are places."""
    told = [(0, [])] * places
    for turn in range(places):
        told = longer_walks(told, steps)
    return told


def round_within(walk):
    """The first round of a walk, from a place to the same one again; no steps where there is none."""
    for end, step in enumerate(walk):
        for begin in range(end + 1):
            if walk[begin][0] == step[1]:
                return walk[begin:end + 1]
    return []


def way_round(nothing, steps):
    """The way of the askers that go a round of steps."""
    begin = 0
    for number, step in enumerate(steps):
        # Who takes nothing is the last one of a way, so a round that comes by nothing is begun there.
        if step[0] == nothing:
            begin = number
    way = []
    for ahead, behind, gain, asker in steps[begin:] + steps[:begin]:
        if asker is not None:
            way.append((asker, None if behind == nothing else behind))
    return way


def gaining_way(wishes, worths, dealing):
    """A way of a gain above 0 for a dealing, no takings where there is none."""
    nothing = len(wishes[0])
    for gained, walk in widest_walks(nothing + 1, all_steps(wishes, worths, dealing)):
        # A walk of so many steps meets a place twice; as it gains more than the shorter ones, the round in it gains.
        if len(walk) == nothing + 1:
            return way_round(nothing, round_within(walk))
    return []


def best_by(wishes, worths):
    """A dealing that no other one is worth more than, by the worths."""
    dealing = [None] * len(wishes[1])
    way = gaining_way(wishes, worths, dealing)
    while way:
        dealing = behind_way(dealing, way)
        way = gaining_way(wishes, worths, dealing)
    return dealing


def prices_for(wishes, worths, dealing):
    """For each thing of a best dealing what one more copy of it would gain."""
    nothing = len(wishes[0])
    walks = widest_walks(nothing + 1, all_steps(wishes, worths, dealing))
    return [gained for gained, walk in walks[:nothing]]


def asks_beyond(askers, worths, prices):
    """For each asker the most by which one of its wishes is worth more than the price, 0 where none is."""
    asks = [0] * askers
    for asker, thing, worth in worths:
        asks[asker] = max(asks[asker], worth - prices[thing])
    return asks


def paper_for(wishes, worths, dealing):
    """A paper with times 1 that claims just what a best dealing is worth."""
    prices = prices_for(wishes, worths, dealing)
    return (1, asks_beyond(len(wishes[1]), worths, prices), prices)
