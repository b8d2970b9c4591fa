"""Whole numbers, minutes, orders and names."""

LAST_MINUTE = 99999
FULL_ASTERN = -4
FULL_AHEAD = 4
LONGEST_NAME = 8


def is_whole(thing):
    """Tell whether a thing is a whole number."""
    # To Python, True and False are ints, too.
    return isinstance(thing, int) and not isinstance(thing, bool)


def is_minute(thing):
    """Tell whether a thing is a minute."""
    return is_whole(thing) and 0 <= thing <= LAST_MINUTE


def is_order(thing):
    """Tell whether a thing is an order."""
    return is_whole(thing) and FULL_ASTERN <= thing <= FULL_AHEAD


def is_name(thing):
    """Tell whether a thing is a name."""
    if not isinstance(thing, str) or not 1 <= len(thing) <= LONGEST_NAME:
        return False
    return all(["a" <= sign <= "z" for sign in thing])
