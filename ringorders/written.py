"""Cards written out: the rows that they ring."""

from ringorders.cards import minutes_within, refuse_no_card
from ringorders.errors import Full
from ringorders.logs import MOST_ROWS
from ringorders.things import LAST_MINUTE


def written_out(card, minute=0):
    """Tell the rows that a card rings from a minute on."""
    refuse_no_card(card)
    if rings_in(card) > MOST_ROWS:
        raise Full("there are too many rings")
    rows = []
    write(card, minute, rows)
    return rows


def rings_in(card):
    """Tell how many times a card rings while it is played."""
    kind = card[0]
    if kind == "ring":
        return 1
    if kind == "row":
        return sum([rings_in(part) for part in card[1]])
    if kind == "again":
        return card[1] * rings_in(card[2])
    return 0


def write(card, minute, rows):
    """Add the rows that a card rings from a minute on, and tell the minute behind it."""
    kind = card[0]
    if rings_in(card) == 0:
        return minute + minutes_within(card)
    if kind == "ring":
        if minute > LAST_MINUTE:
            raise Full("this is later than all minutes")
        rows.append((minute, card[1], card[2]))
        return minute
    # Whatever is gone through here rings each time, so not more than forty times in all.
    parts = card[1] if kind == "row" else (card[2],) * card[1]
    for part in parts:
        minute = write(part, minute, rows)
    return minute
