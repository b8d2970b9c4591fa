"""Sharings that show that all of the greatest joinings for a difference have a pair, or that none has it."""

from ringorders.joinings import joining
from ringorders.pairs import refuse_unfit
from ringorders.sharings import is_sharing, sharing
from ringorders.sure import others_beside, others_than

FEWER = {"all": 1, "none": 2}


def shown(bridge, room, pair, d=0, lag=0):
    """Tell a sharing that shows that all have a pair, or that none has it; None where some have it."""
    refuse_unfit(bridge, room, pair, d, lag)
    for word in FEWER:
        crowds = sharing(bridge, room, others_for(word, bridge, room, pair, d, lag), d, lag)
        if len(crowds) <= most_crowds(word, bridge, room, d, lag):
            return crowds
    return None


def shows(bridge, room, pair, word, thing, d=0, lag=0):
    """Tell whether a thing is a sharing that shows that all have a pair, or that none has it."""
    refuse_unfit(bridge, room, pair, d, lag)
    if not is_shown(word):
        return False
    if not is_sharing(bridge, room, others_for(word, bridge, room, pair, d, lag), thing, lag, d, d):
        return False
    return len(thing) <= most_crowds(word, bridge, room, d, lag)


def is_shown(thing):
    """Tell whether a thing is a word that can be shown of a pair."""
    return isinstance(thing, str) and thing in FEWER


def others_for(word, bridge, room, pair, d, lag):
    """Tell the other pairs that are shared to show a word of a pair."""
    if word == "all":
        return others_than(bridge, room, pair, d, lag)
    return others_beside(bridge, room, pair, d, lag)


def most_crowds(word, bridge, room, d, lag):
    """Tell into how many crowds at most a sharing shows a word."""
    return len(joining(bridge, room, d, lag)) - FEWER[word]
