"""Weblook: whether a paper and some dealings are a web, which holds all best dealings together."""

from wishdeal.aims import look_at_aim
from wishdeal.dealings import copies_left, what_is_wrong
from wishdeal.papers import claim_of, lets_paper
from wishdeal.worths import all_worths, worth_of


def tight_wishes(wishes, aim, paper):
    """The wishes of which asks and price are just times the worth together, tuples (asker, thing), sorted."""
    times, asks, prices = paper
    worths = all_worths(wishes, aim)
    return [(asker, thing) for asker, thing, worth in worths if asks[asker] + prices[thing] == times * worth]


def is_claimed(wishes, aim, paper, thing):
    """Whether anything is a dealing that is worth just what a paper claims."""
    if what_is_wrong(wishes, thing) is not None:
        return False
    return paper[0] * worth_of(wishes, aim, thing) == claim_of(wishes, paper)


def shows_wishes(dealings, wanted):
    """Whether each of the wanted wishes is dealt in one of the dealings."""
    return all([any([dealing[asker] == thing for dealing in dealings]) for asker, thing in wanted])


def shows_nothing(dealings, asks):
    """Whether each asker whose asks are 0 has nothing in one of the dealings."""
    return all([ask > 0 or None in [dealing[asker] for dealing in dealings] for asker, ask in enumerate(asks)])


def shows_left(wishes, dealings, prices):
    """Whether each thing whose price is 0 has a copy left in one of the dealings."""
    lefts = [copies_left(wishes, dealing) for dealing in dealings]
    return all([price > 0 or any([left[thing] > 0 for left in lefts]) for thing, price in enumerate(prices)])


def lets_web(wishes, aim, thing):
    """Whether anything is a web for the wishes and the aim."""
    look_at_aim(wishes, aim)
    if not isinstance(thing, tuple) or len(thing) != 2:
        return False
    paper, dealings = thing
    if not lets_paper(wishes, aim, paper) or not isinstance(dealings, list) or len(dealings) == 0:
        return False
    if not all([is_claimed(wishes, aim, paper, dealing) for dealing in dealings]):
        return False
    times, asks, prices = paper
    if not shows_wishes(dealings, tight_wishes(wishes, aim, paper)):
        return False
    return shows_nothing(dealings, asks) and shows_left(wishes, dealings, prices)
