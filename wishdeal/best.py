"""Best dealings, and what makes one better that isn't best."""

from wishdeal.search import best_by, gaining_way, paper_for
from wishdeal.worths import all_worths


def best_dealing(wishes, aim):
    """A tuple of a best dealing and a paper with times 1 that claims just its worth."""
    worths = all_worths(wishes, aim)
    dealing = best_by(wishes, worths)
    return (dealing, paper_for(wishes, worths, dealing))


def bettered(wishes, aim, dealing):
    """Either (`way`, a way that gains), or (`best`, a paper with times 1 that claims just the dealing's worth)."""
    worths = all_worths(wishes, aim)
    way = gaining_way(wishes, worths, dealing)
    if way:
        return ("way", way)
    return ("best", paper_for(wishes, worths, dealing))
