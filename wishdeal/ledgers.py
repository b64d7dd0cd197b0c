"""Ledgers: asker by asker the copies that may be left, and how many best dealings go on from each."""

from wishdeal.aims import look_at_aim
from wishdeal.names import are_numbers, is_number
from wishdeal.webs import may_get


def choices_of(wishes, aim, web):
    """For each asker what it may get in a best dealing: None ahead, where it may get nothing, then things, rising."""
    told = []
    for asker in range(len(wishes[1])):
        things, nothing = may_get(wishes, aim, web, asker)
        told.append([None] + things if nothing else things)
    return told


def behind_choice(left, got):
    """What is left behind a choice of which a copy is left."""
    if got is None:
        return left
    return left[:got] + (left[got] - 1,) + left[got + 1:]


def led_to(choices, left):
    """Those of an asker's choices that are left, each with what is left behind it: tuples (choice, left)."""
    return [(got, behind_choice(left, got)) for got in choices if got is None or left[got] > 0]


def last_row(prices, lefts):
    """The last list of a ledger for these lefts: 1 where all is gone that has a price, else 0."""
    told = []
    for left in lefts:
        kept = [many for many, price in zip(left, prices) if many > 0 and price > 0]
        told.append((left, 0 if kept else 1))
    return told


def row_ahead(choices, lefts, behind):
    """An asker's list of a ledger for these lefts, by the list behind it."""
    many = dict(behind)
    return [(left, sum([many[after] for got, after in led_to(choices, left)])) for left in lefts]


def lefts_by_asker(copies, choices):
    """For each asker, and behind the last one, the lefts that are led to, rising."""
    told = [[tuple(copies)]]
    for row in choices:
        ahead = told[-1]
        told.append(sorted({after for left in ahead for got, after in led_to(row, left)}))
    return told


def ledger_of(wishes, aim, web):
    """A ledger for the wishes, the aim and the web."""
    look_at_aim(wishes, aim)
    choices = choices_of(wishes, aim, web)
    lefts = lefts_by_asker(wishes[0], choices)
    times, asks, prices = web[0]
    rows = [last_row(prices, lefts[-1])]
    for asker in range(len(choices) - 1, -1, -1):
        rows.append(row_ahead(choices[asker], lefts[asker], rows[-1]))
    return rows[::-1]


def is_entry(thing, things):
    """Whether anything is a tuple of a left, of so many things, and a number."""
    if not isinstance(thing, tuple) or len(thing) != 2:
        return False
    left, many = thing
    return isinstance(left, tuple) and are_numbers(left, things) and is_number(many)


def is_row(thing, things):
    """Whether anything is a list of one or more tuples (left, many), rising by left."""
    if not isinstance(thing, list) or len(thing) == 0:
        return False
    if not all([is_entry(entry, things) for entry in thing]):
        return False
    return all([ahead[0] < behind[0] for ahead, behind in zip(thing, thing[1:])])


def has_ledger_form(wishes, thing):
    """Whether anything is a list for each asker and one more of a ledger's rows, the first one of the copies alone."""
    copies, lists = wishes
    if not isinstance(thing, list) or len(thing) != len(lists) + 1:
        return False
    if not all([is_row(row, len(copies)) for row in thing]):
        return False
    return [left for left, many in thing[0]] == [tuple(copies)]


def is_summed(choices, row, behind):
    """Whether all that an asker's list leads to stands in the list behind, and comes to its numbers."""
    stands = dict(behind)
    lefts = [left for left, many in row]
    if not all([after in stands for left in lefts for got, after in led_to(choices, left)]):
        return False
    return row == row_ahead(choices, lefts, behind)


def lets_ledger(wishes, aim, web, thing):
    """Whether anything is a ledger for the wishes, the aim and the web."""
    look_at_aim(wishes, aim)
    if not has_ledger_form(wishes, thing):
        return False
    times, asks, prices = web[0]
    if thing[-1] != last_row(prices, [left for left, many in thing[-1]]):
        return False
    choices = choices_of(wishes, aim, web)
    return all([is_summed(row, thing[asker], thing[asker + 1]) for asker, row in enumerate(choices)])


def told_by(ledger):
    """How many best dealings a ledger tells."""
    left, many = ledger[0][0]
    return many
