"""Ways: askers that take, each but the last one, what the next one has; and so a dealing becomes another one."""

from wishdeal.aims import look_at_aim
from wishdeal.dealings import copies_left
from wishdeal.errors import NoWay
from wishdeal.names import is_number_below, is_whole
from wishdeal.wishes import rank_in
from wishdeal.worths import worth_of


def is_taking(lists, dealing, thing):
    """Whether anything is a tuple of an asker and what it may take in the stead of what it has."""
    if not isinstance(thing, tuple) or len(thing) != 2:
        return False
    asker, taken = thing
    if not is_number_below(asker, len(lists)):
        return False
    if taken is None:
        return dealing[asker] is not None
    return is_whole(taken) and taken != dealing[asker] and rank_in(lists[asker], taken) > 0


def is_linked(dealing, takings):
    """Whether each next asker has the thing that the one ahead takes."""
    for place in range(1, len(takings)):
        taken = takings[place - 1][1]
        # Nothing is no thing: one that takes nothing asks it of nobody, so no asker stands behind it.
        if taken is None or dealing[takings[place][0]] != taken:
            return False
    return True


def is_way(wishes, dealing, thing):
    """Whether anything is a way for a dealing."""
    left = copies_left(wishes, dealing)
    if not isinstance(thing, list) or len(thing) == 0:
        return False
    if not all([is_taking(wishes[1], dealing, taking) for taking in thing]):
        return False
    if len({asker for asker, taken in thing}) != len(thing) or not is_linked(dealing, thing):
        return False
    last = thing[-1][1]
    return last is None or left[last] > 0 or dealing[thing[0][0]] == last


def behind_way(dealing, way):
    """The dealing behind what is known to be a way."""
    told = list(dealing)
    for asker, taken in way:
        told[asker] = taken
    return told


def done(wishes, dealing, way):
    """The dealing behind a way, or NoWay, of anything as way."""
    if not is_way(wishes, dealing, way):
        raise NoWay("no way for the dealing")
    return behind_way(dealing, way)


def gain_of(wishes, aim, dealing, way):
    """By how much the dealing behind a way is worth more than the one ahead."""
    look_at_aim(wishes, aim)
    return worth_of(wishes, aim, done(wishes, dealing, way)) - worth_of(wishes, aim, dealing)
