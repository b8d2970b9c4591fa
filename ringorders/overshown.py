"""Cases that show, over a stretch, that all of the best joinings have a pair, or that none has it."""

from ringorders.clashes import span_within
from ringorders.counts import best
from ringorders.overall import beside, besides
from ringorders.sharings import is_sharing, sharing
from ringorders.shown import FEWER, is_shown
from ringorders.stretches import is_run, pairs_in, pieces, refuse_misfit, spans_in


def over_shown(bridge, room, pair, lag=0, low=0, high=0):
    """Tell cases that show that all have a pair, or that none has it; None where some have it."""
    refuse_misfit(bridge, room, pair, lag, low, high)
    for word in FEWER:
        cases = cases_for(word, bridge, room, pair, lag, low, high)
        if cases is not None:
            return cases
    return None


def cases_for(word, bridge, room, pair, lag, low, high):
    """Tell cases that show a word of a pair, or None where it isn't so."""
    most = most_crowds(word, bridge, room, lag, low, high)
    first, last = bounds_for(word, bridge, room, pair, lag, low, high)
    cases = []
    for start, end, pairs in pieces(bridge, room, lag, first, last):
        crowds = sharing(bridge, room, others_for(word, bridge, pairs, pair), start, lag)
        if len(crowds) > most:
            return None
        cases.append((start, end, crowds))
    return cases


def over_shows(bridge, room, pair, word, thing, lag=0, low=0, high=0):
    """Tell whether a thing is cases that show that all have a pair, or that none has it."""
    refuse_misfit(bridge, room, pair, lag, low, high)
    if not is_shown(word):
        return False
    first, last = bounds_for(word, bridge, room, pair, lag, low, high)
    if not is_run(thing, first, last):
        return False
    spans = spans_in(bridge, room, lag, first, last)
    most = most_crowds(word, bridge, room, lag, low, high)
    for start, end, crowds in thing:
        others = others_for(word, bridge, pairs_in(spans, start, end), pair)
        if not is_sharing(bridge, room, others, crowds, lag, start, end) or len(crowds) > most:
            return False
    return True


def bounds_for(word, bridge, room, pair, lag, low, high):
    """Tell the least and the greatest difference of the cases that show a word of a pair."""
    # Where the pair doesn't fit, it is sure that none has it.
    return (low, high) if word == "all" else span_within(bridge, room, pair, lag, low, high)


def others_for(word, bridge, pairs, pair):
    """Tell which pairs are shared to show a word of a pair, of those that fit some difference of a case."""
    # For the other word the pair fits all differences of the case, so that no other one clashes by the clocks.
    return besides(pairs, pair) if word == "all" else beside(bridge, pairs, pair)


def most_crowds(word, bridge, room, lag, low, high):
    """Tell into how many crowds at most a sharing shows a word."""
    _, joined = best(bridge, room, lag, low, high)
    return len(joined) - FEWER[word]
