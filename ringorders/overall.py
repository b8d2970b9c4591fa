"""What is sure of a pair over a stretch: whether all, some or none of the best joinings have it."""

from ringorders.clashes import rows_clash
from ringorders.sharings import greatest, sharing
from ringorders.stretches import pieces, refuse_misfit, spans_in
from ringorders.sure import words_among


def over_words(bridge, room, lag=0, low=0, high=0):
    """Tell (pair, word) of each pair that fits some difference of a stretch."""
    _, parts = best_pieces(bridge, room, lag, low, high)
    words = [dict(words_among(bridge, pairs)) for _, pairs in parts]
    return [(pair, word_over(words, pair)) for pair, _, _ in spans_in(bridge, room, lag, low, high)]


def word_over(words, pair):
    """Tell the word of a pair over a stretch by the words of the pairs that fit its best differences."""
    found = [here.get(pair, "none") for here in words]
    return found[0] if found.count(found[0]) == len(found) else "some"


def over_with(bridge, room, pair, lag=0, low=0, high=0):
    """Tell a best joining of a stretch that has a pair, as (d, joining), or None."""
    refuse_misfit(bridge, room, pair, lag, low, high)
    many, parts = best_pieces(bridge, room, lag, low, high)
    for d, pairs in parts:
        if pair in pairs:
            joined = sorted(greatest(bridge, room, beside(bridge, pairs, pair), d, lag) + [pair])
            if len(joined) == many:
                return (d, joined)
    return None


def over_without(bridge, room, pair, lag=0, low=0, high=0):
    """Tell a best joining of a stretch that has a pair not, as (d, joining), or None."""
    refuse_misfit(bridge, room, pair, lag, low, high)
    many, parts = best_pieces(bridge, room, lag, low, high)
    for d, pairs in parts:
        joined = greatest(bridge, room, besides(pairs, pair), d, lag)
        if len(joined) == many:
            return (d, joined)
    return None


def best_pieces(bridge, room, lag, low, high):
    """Tell the greatest count of a stretch, and (d, pairs) of the pieces with it: their first d, the pairs that fit."""
    counted = []
    for start, _, pairs in pieces(bridge, room, lag, low, high):
        counted.append((len(sharing(bridge, room, pairs, start, lag)), start, pairs))
    many = max([count for count, _, _ in counted])
    return (many, [(start, pairs) for count, start, pairs in counted if count == many])


def besides(pairs, pair):
    """Tell all of some pairs but one."""
    return [other for other in pairs if other != pair]


def beside(bridge, pairs, pair):
    """Tell those of some other pairs that can be true together with one, where all of them fit one difference."""
    return [other for other in besides(pairs, pair) if rows_clash(bridge, pair, other) is None]
