"""Counts: how many pairs the greatest joinings have, over a stretch of differences of the clocks."""

from ringorders.sharings import greatest, sharing
from ringorders.stretches import pieces


def counts(bridge, room, lag=0, low=0, high=0):
    """Tell (from, to, many), one behind the other: how many pairs the greatest joining for each difference has."""
    told = []
    for start, end, pairs in pieces(bridge, room, lag, low, high):
        many = len(sharing(bridge, room, pairs, start, lag))
        if told and told[-1][2] == many:
            told[-1] = (told[-1][0], end, many)
        else:
            told.append((start, end, many))
    return told


def best(bridge, room, lag=0, low=0, high=0):
    """Tell (d, joining): the least difference with the greatest count, and a joining with so many pairs."""
    best_d = low
    joined = []
    for start, _, pairs in pieces(bridge, room, lag, low, high):
        tried = greatest(bridge, room, pairs, start, lag)
        if len(tried) > len(joined):
            best_d = start
            joined = tried
    return (best_d, joined)
