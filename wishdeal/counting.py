"""Counting: how many best dealings there are, their numbers, and what each asker gets in how many of them."""

from wishdeal.errors import NoPlace
from wishdeal.ledgers import choices_of, led_to, ledger_of, told_by
from wishdeal.names import is_number_below
from wishdeal.weblook import is_claimed
from wishdeal.webs import web_of


def how_many(wishes, aim):
    """How many best dealings there are."""
    return told_by(ledger_of(wishes, aim, web_of(wishes, aim)))


def choice_at(leads, many, number):
    """The choice behind which the dealing of a number stands: a tuple (choice, left, number among those behind it)."""
    place = 0
    while number >= many[leads[place][1]]:
        number -= many[leads[place][1]]
        place += 1
    got, left = leads[place]
    return (got, left, number)


def numbered(wishes, aim, number):
    """The best dealing of a number, or NoPlace, of anything as number."""
    web = web_of(wishes, aim)
    ledger = ledger_of(wishes, aim, web)
    if not is_number_below(number, told_by(ledger)):
        raise NoPlace("no number of a best dealing")
    dealing = []
    left = tuple(wishes[0])
    rest = number
    for choices, row in zip(choices_of(wishes, aim, web), ledger[1:]):
        got, left, rest = choice_at(led_to(choices, left), dict(row), rest)
        dealing.append(got)
    return dealing


def number_of(wishes, aim, thing):
    """The number of anything among the best dealings, None where it is none of them."""
    web = web_of(wishes, aim)
    if not is_claimed(wishes, aim, web[0], thing):
        return None
    ledger = ledger_of(wishes, aim, web)
    number = 0
    left = tuple(wishes[0])
    for asker, choices in enumerate(choices_of(wishes, aim, web)):
        leads = led_to(choices, left)
        many = dict(ledger[asker + 1])
        place = [got for got, after in leads].index(thing[asker])
        number += sum([many[after] for got, after in leads[:place]])
        left = leads[place][1]
    return number


def many_ahead(copies, choices):
    """By each left that the choices of some askers lead to in how many ways they do."""
    told = {tuple(copies): 1}
    for row in choices:
        behind = {}
        for left, many in told.items():
            for got, after in led_to(row, left):
                behind[after] = behind.get(after, 0) + many
        told = behind
    return told


def shares(wishes, aim, asker):
    """What an asker gets in how many best dealings: tuples (what, many), None first, then things, rising."""
    web = web_of(wishes, aim)
    choices = choices_of(wishes, aim, web)
    behind = dict(ledger_of(wishes, aim, web)[asker + 1])
    told = {got: 0 for got in choices[asker]}
    for left, many in many_ahead(wishes[0], choices[:asker]).items():
        for got, after in led_to(choices[asker], left):
            told[got] += many * behind[after]
    return list(told.items())
