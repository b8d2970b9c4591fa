"""Stretches of differences of the clocks, the pairs that fit some of them, and the pieces in which these stay."""

from ringorders.clashes import span_within
from ringorders.errors import NoPair
from ringorders.pairs import all_pairs
from ringorders.things import is_whole


def spans_in(bridge, room, lag, low, high):
    """Tell (pair, least, greatest) of all pairs that fit some difference of a stretch, by those of it that they fit."""
    spans = [(pair,) + span_within(bridge, room, pair, lag, low, high) for pair in all_pairs(bridge, room)]
    return [(pair, least, most) for pair, least, most in spans if least <= most]


def refuse_misfit(bridge, room, thing, lag, low, high):
    """Refuse what is no pair that fits some difference of a stretch."""
    # What is no pair at all is refused with its span.
    least, most = span_within(bridge, room, thing, lag, low, high)
    if least > most:
        raise NoPair("this is no pair that fits")


def pairs_in(spans, low, high):
    """Tell the pairs that fit some difference from low to high."""
    return [pair for pair, least, most in spans if least <= high and most >= low]


def pieces(bridge, room, lag, low, high):
    """Tell (from, to, pairs), one behind the other from low to high; the pairs fit each difference from from to to."""
    spans = spans_in(bridge, room, lag, low, high)
    changes = [low] + [span[1] for span in spans] + [span[2] + 1 for span in spans]
    starts = sorted({d for d in changes if d <= high})
    ends = [start - 1 for start in starts[1:]] + [high]
    return [(start, end, pairs_in(spans, start, start)) for start, end in zip(starts, ends)]


def is_run(thing, low, high):
    """Tell whether a thing is a list of tuples (from, to, what), one behind the other from low to high."""
    if not isinstance(thing, list):
        return False
    awaited = low
    for case in thing:
        if not isinstance(case, tuple) or len(case) != 3:
            return False
        start, end, _ = case
        if not is_whole(start) or not is_whole(end) or start != awaited or end < start:
            return False
        awaited = end + 1
    return awaited == high + 1
