"""Webs: all best dealings as one, and who may get what in any of them."""

from wishdeal.aims import look_at_aim
from wishdeal.names import above_nought
from wishdeal.search import all_steps, best_by, prices_for
from wishdeal.strict import all_roads, shown_by_rounds, strict_paper, tight_steps
from wishdeal.weblook import tight_wishes
from wishdeal.worths import all_worths


def web_of(wishes, aim):
    """A web for the wishes and the aim."""
    worths = all_worths(wishes, aim)
    dealing = best_by(wishes, worths)
    prices = prices_for(wishes, worths, dealing)
    steps = tight_steps(all_steps(wishes, worths, dealing), prices)
    roads = all_roads(len(prices) + 1, steps)
    return (strict_paper(len(dealing), worths, prices, roads), shown_by_rounds(dealing, steps, roads))


def possible(wishes, aim, web):
    """The wishes of which each is in some best dealing, tuples (asker, thing), sorted."""
    look_at_aim(wishes, aim)
    return tight_wishes(wishes, aim, web[0])


def sure(wishes, aim, web):
    """The wishes that are in all best dealings, tuples (asker, thing), sorted."""
    told = possible(wishes, aim, web)
    # Whatever else its asker gets in a best dealing is tight, or nothing, so a dealing of the web shows it.
    return [(asker, thing) for asker, thing in told if all([dealing[asker] == thing for dealing in web[1]])]


def served(web):
    """The askers that get something in all best dealings, rising."""
    paper, dealings = web
    times, asks, prices = paper
    return above_nought(asks)


def full(web):
    """The things of which no copy is left in any best dealing, rising."""
    paper, dealings = web
    times, asks, prices = paper
    return above_nought(prices)


def may_get(wishes, aim, web, asker):
    """What an asker may get in a best dealing, a sorted list of things; and whether it may get nothing, a truth."""
    things = [thing for who, thing in possible(wishes, aim, web) if who == asker]
    times, asks, prices = web[0]
    return (things, asks[asker] == 0)
