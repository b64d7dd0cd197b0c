"""All best dealings in one list, and dealings that show where two orders part."""

from wishdeal.best import best_dealing
from wishdeal.dealings import counts_of
from wishdeal.errors import TooMany
from wishdeal.ledgers import choices_of, led_to, ledger_of, told_by
from wishdeal.webs import web_of

MOST_TOLD = 200


def further(begun, choices, many):
    """What begun dealings, tuples (dealing, left), become by an asker's choices, many by what is left behind them."""
    told = []
    for dealing, left in begun:
        for got, after in led_to(choices, left):
            # Only what goes on to a best dealing is kept, so never more are begun than there are in the end.
            if many[after] > 0:
                told.append((dealing + [got], after))
    return told


def all_best(wishes, aim):
    """All best dealings, sorted place by place, None ahead of numbers; or TooMany."""
    web = web_of(wishes, aim)
    ledger = ledger_of(wishes, aim, web)
    if told_by(ledger) > MOST_TOLD:
        raise TooMany("more best dealings than are told in one list")
    begun = [([], tuple(wishes[0]))]
    for choices, row in zip(choices_of(wishes, aim, web), ledger[1:]):
        begun = further(begun, choices, dict(row))
    return [dealing for dealing, left in begun]


def orders_part(wishes, one, other):
    """None where best dealings by two orders have the same counts, else a tuple of two dealings, best by each."""
    mine, paper = best_dealing(wishes, (one, None, []))
    yours, other_paper = best_dealing(wishes, (other, None, []))
    if counts_of(wishes, mine) == counts_of(wishes, yours):
        return None
    return (mine, yours)
