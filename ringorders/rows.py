"""Rows: tuples (minute, line, what)."""

from ringorders.errors import NoRow
from ringorders.things import is_minute, is_name, is_order

SENDERS = {"port": "bridge", "star": "bridge", "down": "bridge", "aport": "room", "astar": "room", "up": "room"}
DIALS = {"port": "aport", "star": "astar"}
TUBES = ("down", "up")
HOUSES = ("bridge", "room")


def is_row(thing):
    """Tell whether a thing is a row."""
    return isinstance(thing, tuple) and makes_row(thing)


def makes_row(thing):
    """Tell whether a thing is a list or a tuple that makes a row."""
    if not isinstance(thing, (list, tuple)) or len(thing) != 3:
        return False
    minute, line, what = thing
    if not is_line(line):
        return False
    borne = is_name(what) if line in TUBES else is_order(what)
    return borne and is_minute(minute)


def row_of(thing):
    """Make a row of a list or a tuple."""
    if not makes_row(thing):
        raise NoRow("this makes no row")
    return tuple(thing)


def sent_from(line):
    """Tell the house from which is sent what stands on a line."""
    return SENDERS[line]


def dial_of(engine):
    """Tell the dial of an engine."""
    return DIALS[engine]


def is_line(thing):
    """Tell whether a thing is one of the six lines."""
    # A list or a dict can't be looked up in a dict at all.
    return isinstance(thing, str) and thing in SENDERS


def is_bell(thing):
    """Tell whether a thing is a bell, which is called as its engine."""
    return isinstance(thing, str) and thing in DIALS


def is_house(thing):
    """Tell whether a thing is one of the two houses."""
    return isinstance(thing, str) and thing in HOUSES
