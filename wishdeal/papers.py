"""Papers: asks and prices by which it is seen that no dealing is worth more than they come to together."""

from wishdeal.names import are_numbers, is_whole
from wishdeal.wishes import look_at_wishes
from wishdeal.worths import all_worths


def is_number_list(thing, many):
    """Whether anything is a list of so many whole numbers from 0 on."""
    return isinstance(thing, list) and are_numbers(thing, many)


def has_paper_form(wishes, thing):
    """Whether anything is a tuple of times, asks and prices, of as many as there are askers and things."""
    if not isinstance(thing, tuple) or len(thing) != 3:
        return False
    copies, lists = wishes
    times, asks, prices = thing
    if not is_whole(times) or times < 1:
        return False
    return is_number_list(asks, len(lists)) and is_number_list(prices, len(copies))


def lets_paper(wishes, aim, thing):
    """Whether anything is a paper for the wishes and the aim."""
    worths = all_worths(wishes, aim)
    if not has_paper_form(wishes, thing):
        return False
    times, asks, prices = thing
    return all([asks[asker] + prices[number] >= times * worth for asker, number, worth in worths])


def claim_of(wishes, paper):
    """What a paper claims: the asks together, and the prices, each as many times as the thing has copies."""
    look_at_wishes(wishes)
    times, asks, prices = paper
    return sum(asks) + sum([price * many for price, many in zip(prices, wishes[0])])
