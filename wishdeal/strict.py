"""Strict: papers that are tight at nothing but what is in some best dealing, and dealings that show it.

A step of a best dealing (see wishdeal.search) is tight where it gains just by how much the price of the place behind is
above that of the place ahead; nothing has the price 0. Rounds of tight steps, and no others, lead to best dealings.
"""

from wishdeal.search import asks_beyond, way_round
from wishdeal.ways import behind_way


def tight_steps(steps, prices):
    """The tight ones of the steps of a best dealing, by the prices of its things."""
    paid = prices + [0]
    return [step for step in steps if paid[step[0]] + step[2] == paid[step[1]]]


def roads_from(place, places, steps):
    """By each place that steps lead to from a place the steps to it, none of them for the place itself."""
    told = {place: []}
    for turn in range(places):
        for step in steps:
            if step[0] in told and step[1] not in told:
                told[step[1]] = told[step[0]] + [step]
    return told


def all_roads(places, steps):
    """For each place the roads from it."""
    return [roads_from(place, places, steps) for place in range(places)]


def strict_prices(prices, roads):
    """Prices for as many times as there are places, by which a step that is in no round is no longer tight."""
    times = len(roads)
    # To the place behind a step at least as many places lead as to the one ahead, just as many where it is in a round;
    # and they are at most so many apart that what wasn't tight can't become so.
    led_from = [len([road for road in roads if place in road]) for place in range(times)]
    return [times * price + led_from[thing] - led_from[-1] for thing, price in enumerate(prices)]


def strict_paper(askers, worths, prices, roads):
    """A paper that is tight just at what is in some best dealing."""
    times = len(roads)
    finer = strict_prices(prices, roads)
    asks = asks_beyond(askers, [(asker, thing, times * worth) for asker, thing, worth in worths], finer)
    return (times, asks, finer)


def shown_by_rounds(dealing, steps, roads):
    """Best dealings, the first one this one, among which each tight step that is in a round is gone."""
    nothing = len(roads) - 1
    told = [list(dealing)]
    for step in steps:
        ahead, behind, gain, asker = step
        # What a copy that is left shows, the first dealing shows.
        is_left = asker is None and behind == nothing
        if ahead in roads[behind] and not is_left:
            shown = behind_way(dealing, way_round(nothing, [step] + roads[behind][ahead]))
            if shown not in told:
                told.append(shown)
    return told
