"""Papers that show that no difference of a stretch has a greater joining than the best one."""

from ringorders.counts import best
from ringorders.joinings import is_joining
from ringorders.sharings import is_sharing, sharing
from ringorders.stretches import is_run, pairs_in, pieces, spans_in
from ringorders.things import is_whole


def best_paper(bridge, room, lag=0, low=0, high=0):
    """Tell a paper (d, joining, cases) of the best."""
    d, joined = best(bridge, room, lag, low, high)
    cases = []
    for start, end, pairs in pieces(bridge, room, lag, low, high):
        cases.append((start, end, sharing(bridge, room, pairs, start, lag)))
    return (d, joined, cases)


def is_best(bridge, room, thing, lag=0, low=0, high=0):
    """Tell whether a thing is a paper of the best."""
    if not isinstance(thing, tuple) or len(thing) != 3:
        return False
    d, joined, cases = thing
    if not is_whole(d) or not low <= d <= high:
        return False
    if not is_joining(bridge, room, joined, d, lag) or not is_run(cases, low, high):
        return False
    spans = spans_in(bridge, room, lag, low, high)
    for start, end, crowds in cases:
        if not is_sharing(bridge, room, pairs_in(spans, start, end), crowds, lag, start, end):
            return False
        if len(crowds) > len(joined):
            return False
    return True
