"""What is sure of a pair: whether all, some or none of the greatest joinings for a difference have it."""

from ringorders.clashes import clash
from ringorders.joinings import joining
from ringorders.pairs import pairs_at, refuse_unfit
from ringorders.sharings import greatest, leads, levels_by_line


def sure_words(bridge, room, d=0, lag=0):
    """Tell (pair, word) of each pair that fits a difference."""
    return words_among(bridge, pairs_at(bridge, room, d, lag))


def words_among(bridge, pairs):
    """Tell (pair, word) of each of some pairs, which are all that fit a difference."""
    words = []
    for levels in levels_by_line(bridge, pairs):
        words.extend(words_of(levels))
    return sorted(words)


def words_of(levels):
    """Tell (pair, word) of each pair of a line, by the line's crowds."""
    words = []
    chosen = []
    # A greatest joining has just one pair of each crowd, each leading the one of the next crowd.
    for crowd in reversed(levels):
        chosen = [pair for pair in crowd if not chosen or any([leads(pair, later) for later in chosen])]
        word = "all" if len(chosen) == 1 else "some"
        words.extend([(pair, word if pair in chosen else "none") for pair in crowd])
    return words


def joined_with(bridge, room, pair, d=0, lag=0):
    """Tell a greatest joining for a difference that has a pair, or None."""
    refuse_unfit(bridge, room, pair, d, lag)
    joined = greatest(bridge, room, others_beside(bridge, room, pair, d, lag), d, lag)
    return as_greatest(bridge, room, sorted(joined + [pair]), d, lag)


def joined_without(bridge, room, pair, d=0, lag=0):
    """Tell a greatest joining for a difference that has a pair not, or None."""
    refuse_unfit(bridge, room, pair, d, lag)
    joined = greatest(bridge, room, others_than(bridge, room, pair, d, lag), d, lag)
    return as_greatest(bridge, room, joined, d, lag)


def as_greatest(bridge, room, joined, d, lag):
    """Tell a joining for a difference where it has as many pairs as the greatest one, else None."""
    return joined if len(joined) == len(joining(bridge, room, d, lag)) else None


def others_than(bridge, room, pair, d, lag):
    """Tell all other pairs that fit a difference."""
    return [other for other in pairs_at(bridge, room, d, lag) if other != pair]


def others_beside(bridge, room, pair, d, lag):
    """Tell all other pairs that fit a difference and don't clash with a pair there."""
    others = others_than(bridge, room, pair, d, lag)
    return [other for other in others if clash(bridge, room, pair, other, lag, d, d) is None]
