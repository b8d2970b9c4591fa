"""Clashes: why two pairs can't be true together."""

from ringorders.pairs import span


def clash(bridge, room, one, other, lag=0, low=0, high=0):
    """Tell why two pairs clash in a stretch of differences, or None."""
    if one == other:
        return None
    reason = rows_clash(bridge, one, other)
    if reason is not None:
        return reason
    least, greatest = span_within(bridge, room, one, lag, low, high)
    other_least, other_greatest = span_within(bridge, room, other, lag, low, high)
    if max(least, other_least) > min(greatest, other_greatest):
        return "clocks"
    return None


def rows_clash(bridge, one, other):
    """Tell why two unlike pairs clash whatever the clocks' difference is, or None."""
    if one[0] == other[0] or one[1] == other[1]:
        return "row"
    same_line = bridge[one[0]][1] == bridge[other[0]][1]
    if same_line and (one[0] < other[0]) != (one[1] < other[1]):
        return "order"
    return None


def span_within(bridge, room, pair, lag, low, high):
    """Tell the least and the greatest difference of a stretch that a pair fits; the least is greater where none is."""
    least, greatest = span(bridge, room, pair, lag)
    return (max(least, low), min(greatest, high))
