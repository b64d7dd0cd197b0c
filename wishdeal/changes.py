"""Changes of wishes, and dealings carried through them."""

from wishdeal.errors import NoChange, NoWishes
from wishdeal.names import is_number_below
from wishdeal.wishes import copied_wishes, look_at_wishes

SIZES = {"list": 3, "copies": 3, "come": 2, "go": 2, "thing": 2}


def has_change_form(wishes, thing):
    """Whether anything is a tuple of a change's size, and the asker or the thing that it names is there."""
    if not isinstance(thing, tuple) or len(thing) == 0 or not isinstance(thing[0], str):
        return False
    if SIZES.get(thing[0]) != len(thing):
        return False
    copies, lists = wishes
    if thing[0] in ("list", "go"):
        return is_number_below(thing[1], len(lists))
    if thing[0] == "copies":
        return is_number_below(thing[1], len(copies))
    return True


def behind_change(wishes, change):
    """What wishes become by what has the form of a change, perhaps no wishes."""
    copies, lists = wishes
    word = change[0]
    if word == "list":
        return (copies, lists[:change[1]] + [change[2]] + lists[change[1] + 1:])
    if word == "copies":
        return (copies[:change[1]] + [change[2]] + copies[change[1] + 1:], lists)
    if word == "come":
        return (copies, lists + [change[1]])
    if word == "go":
        return (copies, lists[:change[1]] + lists[change[1] + 1:])
    return (copies + [change[1]], lists)


def changed(wishes, change):
    """The wishes behind a change, or NoChange, of anything as change."""
    look_at_wishes(wishes)
    if not has_change_form(wishes, change):
        raise NoChange("no change of the wishes")
    told = behind_change(wishes, change)
    try:
        look_at_wishes(told)
    except NoWishes:
        raise NoChange("they would be no wishes") from None
    return copied_wishes(told)


def carried(wishes, change, dealing):
    """For each asker behind a change what it had ahead, None for one that came; or NoChange, of anything as change."""
    changed(wishes, change)
    if change[0] == "come":
        return dealing + [None]
    if change[0] == "go":
        return dealing[:change[1]] + dealing[change[1] + 1:]
    return list(dealing)
