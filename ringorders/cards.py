"""Cards of manoeuvres: rings, waits, rows of cards, and cards played again and again."""

from ringorders.errors import NoCard
from ringorders.rows import is_bell
from ringorders.things import is_order, is_whole

MOST_DEEP = 6
MOST_CARDS = 30
MOST_IN_ROW = 6
LONGEST_WAIT = 999
MOST_TIMES = 1000000000


def is_card(thing):
    """Tell whether a thing is a card."""
    many = cards_in(thing, MOST_DEEP)
    return many is not None and many <= MOST_CARDS


def cards_in(thing, deep):
    """Tell how many cards there are in a card at most so deep, itself and those within; None of what is none."""
    if deep == 0 or not isinstance(thing, tuple) or len(thing) < 2:
        return None
    if is_ring_card(thing) or is_wait_card(thing):
        return 1
    within = cards_within(thing)
    if within is None:
        return None
    counted = [cards_in(card, deep - 1) for card in within]
    return None if None in counted else 1 + sum(counted)


def is_ring_card(thing):
    """Tell whether a tuple of two or more things is a card that rings an order."""
    return is_kind(thing, "ring", 3) and is_bell(thing[1]) and is_order(thing[2])


def is_wait_card(thing):
    """Tell whether a tuple of two or more things is a card that waits."""
    return is_kind(thing, "wait", 2) and is_whole(thing[1]) and 1 <= thing[1] <= LONGEST_WAIT


def cards_within(thing):
    """Tell what stands in the place of the cards within a row or an again, a tuple; None of what is neither."""
    if is_kind(thing, "row", 2) and isinstance(thing[1], tuple) and len(thing[1]) <= MOST_IN_ROW:
        return thing[1]
    if is_kind(thing, "again", 3) and is_whole(thing[1]) and 0 <= thing[1] <= MOST_TIMES:
        return (thing[2],)
    return None


def is_kind(thing, word, many):
    """Tell whether a tuple of two or more things begins with a word and has so many places."""
    return len(thing) == many and isinstance(thing[0], str) and thing[0] == word


def refuse_no_card(thing):
    """Refuse what is no card."""
    if not is_card(thing):
        raise NoCard("this is no card")


def minutes_of(card):
    """Tell how many minutes pass while a card is played."""
    refuse_no_card(card)
    return minutes_within(card)


def minutes_within(card):
    """Tell how many minutes pass while what surely is a card is played."""
    kind = card[0]
    if kind == "ring":
        return 0
    if kind == "wait":
        return card[1]
    if kind == "row":
        return sum([minutes_within(part) for part in card[1]])
    return card[1] * minutes_within(card[2])
