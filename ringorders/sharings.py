"""Crowds of pairs that clash, sharings of pairs into crowds, and the greatest joinings that these show."""

from ringorders.clashes import rows_clash, span_within
from ringorders.pairs import is_rising


def greatest(bridge, room, pairs, d=0, lag=0):
    """Tell a joining with as many of some pairs, which all fit d, as can be."""
    joined = []
    for levels in levels_by_line(bridge, pairs):
        joined.extend(chain_through(levels))
    return sorted(joined)


def sharing(bridge, room, pairs, d=0, lag=0):
    """Tell a sharing of some pairs, which all fit d, into as few crowds as can be."""
    crowds = []
    for levels in levels_by_line(bridge, pairs):
        crowds.extend(levels)
    return crowds


def levels_by_line(bridge, pairs):
    """Tell for each line a list of crowds of its pairs: each pair is led by one of the crowd ahead of its own."""
    # No clocks are asked: two pairs that fit the same d clash by their rows or not at all.
    lines = {}
    for pair in pairs:
        lines.setdefault(bridge[pair[0]][1], []).append(pair)
    return [levels_of(on_line) for on_line in lines.values()]


def levels_of(pairs):
    """Put each pair of a line in the first of its crowds in which none leads it."""
    levels = []
    lowest = []
    # Of the pairs of one bridge's row the last goes first, so that what was put ahead of a pair leads it
    # just where it has a lesser row of the room's; of each crowd the least of these is enough.
    for pair in sorted(pairs, key=lambda placed: (placed[0], -placed[1])):
        level = 0
        while level < len(levels) and lowest[level] < pair[1]:
            level += 1
        if level == len(levels):
            levels.append([])
            lowest.append(pair[1])
        levels[level].append(pair)
        lowest[level] = pair[1]
    return [sorted(crowd) for crowd in levels]


def leads(one, other):
    """Tell whether both rows of a pair stand ahead of those of another one."""
    return one[0] < other[0] and one[1] < other[1]


def chain_through(levels):
    """Tell one pair of each crowd of a line, from the last crowd to the first, each led by the one told next."""
    chain = []
    for crowd in reversed(levels):
        leading = [pair for pair in crowd if not chain or leads(pair, chain[-1])]
        chain.append(leading[0])
    return chain


def is_sharing(bridge, room, pairs, thing, lag=0, low=0, high=0):
    """Tell whether a thing is a sharing of some pairs, in a stretch of differences."""
    if not isinstance(thing, list):
        return False
    if not all([is_crowd(bridge, room, crowd, lag, low, high) for crowd in thing]):
        return False
    return sorted([pair for crowd in thing for pair in crowd]) == pairs


def is_crowd(bridge, room, thing, lag, low, high):
    """Tell whether a thing is a crowd of pairs, in a stretch of differences."""
    if not is_rising(bridge, room, thing):
        return False
    return len(thing) > 0 and each_two_clash(bridge, room, thing, lag, low, high)


def each_two_clash(bridge, room, crowd, lag, low, high):
    """Tell whether each two of some pairs clash, in a stretch of differences."""
    spans = [span_within(bridge, room, pair, lag, low, high) + (pair,) for pair in crowd]
    # Only pairs that fit a d together need be looked at two by two: all others clash by the clocks.
    held = []
    for least, most, newer in sorted(spans):
        if least > most:
            continue
        held = [(end, older) for end, older in held if end >= least]
        if any([rows_clash(bridge, older, newer) is None for _, older in held]):
            return False
        held.append((most, newer))
    return True
