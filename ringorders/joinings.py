"""Joinings: pairs that can all be true together, for a difference of the clocks."""

from ringorders.pairs import fits, is_rising, pairs_at
from ringorders.sharings import greatest, leads


def joining(bridge, room, d=0, lag=0):
    """Tell a joining for a difference with as many pairs as can be."""
    return greatest(bridge, room, pairs_at(bridge, room, d, lag), d, lag)


def is_joining(bridge, room, thing, d=0, lag=0):
    """Tell whether a thing is a joining for a difference."""
    return is_loose(bridge, room, thing) and all([fits(bridge, room, pair, d, lag) for pair in thing])


def is_loose(bridge, room, thing):
    """Tell whether a thing is a rising list of pairs no two of which clash by row or order."""
    if not is_rising(bridge, room, thing):
        return False
    # Pairs of unlike lines have no row in common, and on one line those that don't clash lead one another in turn.
    latest = {}
    for pair in thing:
        line = bridge[pair[0]][1]
        if line in latest and not leads(latest[line], pair):
            return False
        latest[line] = pair
    return True
