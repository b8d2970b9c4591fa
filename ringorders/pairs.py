"""Pairs: a row of the bridge's log and one of the room's that may be the same."""

from ringorders.errors import NoPair
from ringorders.rows import sent_from
from ringorders.things import is_whole


def is_pair(bridge, room, thing):
    """Tell whether a thing is a pair of numbers of two rows of one line with the same what."""
    if not isinstance(thing, tuple) or len(thing) != 2:
        return False
    b, r = thing
    if not is_number_in(bridge, b) or not is_number_in(room, r):
        return False
    return bridge[b][1:] == room[r][1:]


def is_rising(bridge, room, thing):
    """Tell whether a thing is a rising list of pairs."""
    if not isinstance(thing, list) or not all([is_pair(bridge, room, pair) for pair in thing]):
        return False
    return all([one < other for one, other in zip(thing, thing[1:])])


def is_number_in(log, thing):
    """Tell whether a thing is the number of a row of a log."""
    return is_whole(thing) and 0 <= thing < len(log)


def span(bridge, room, pair, lag=0):
    """Tell the least and the greatest difference of the clocks that a pair fits."""
    if not is_pair(bridge, room, pair):
        raise NoPair("this is no pair")
    b, r = pair
    shown_later = room[r][0] - bridge[b][0]
    # What the bridge sent came later by the room's clock, what the room sent later by the bridge's.
    if sent_from(bridge[b][1]) == "bridge":
        return (shown_later - lag, shown_later)
    return (shown_later, shown_later + lag)


def fits(bridge, room, pair, d, lag):
    """Tell whether a pair fits a difference of the clocks."""
    least, greatest = span(bridge, room, pair, lag)
    return least <= d <= greatest


def refuse_unfit(bridge, room, thing, d, lag):
    """Refuse what is no pair that fits a difference of the clocks."""
    if not is_pair(bridge, room, thing) or not fits(bridge, room, thing, d, lag):
        raise NoPair("this is no pair that fits")


def all_pairs(bridge, room):
    """Tell all pairs, whatever difference they fit."""
    numbers = [(b, r) for b in range(len(bridge)) for r in range(len(room))]
    return [pair for pair in numbers if is_pair(bridge, room, pair)]


def pairs_at(bridge, room, d=0, lag=0):
    """Tell all pairs that fit a difference of the clocks."""
    return [pair for pair in all_pairs(bridge, room) if fits(bridge, room, pair, d, lag)]
