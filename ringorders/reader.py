"""What is read back of texts: minutes, orders, rows, logs and cards, and the words of lines."""

from ringorders.cards import MOST_DEEP, is_card
from ringorders.errors import NoText
from ringorders.logs import MOST_ROWS
from ringorders.rows import TUBES, is_bell, is_line
from ringorders.texts import MINUTES_AN_HOUR, show_minute, show_order
from ringorders.things import FULL_AHEAD, FULL_ASTERN, is_minute, is_name

# How many figures there are at most in hours, and in the minutes left; in a wait; in the times of an again.
HOUR_FIGURES = 4
LEFT_FIGURES = 2
WAIT_FIGURES = 3
TIMES_FIGURES = 10

# The first of these ends a ring or a wait, or the times of an again.
CARD_SIGNS = "*;()"


def refuse_no_text(thing):
    """Refuse what is no text."""
    if not isinstance(thing, str):
        raise NoText(None)


def read_minute(text):
    """Read a minute."""
    refuse_no_text(text)
    hours, _, left = text.partition(":")
    minute = minute_by(figures_of(hours, HOUR_FIGURES), figures_of(left, LEFT_FIGURES))
    # What writes the minute otherwise than it is written isn't let by.
    if not is_minute(minute) or show_minute(minute) != text:
        raise NoText(None)
    return minute


def minute_by(hours, left):
    """Tell the minute by its hours and the minutes left; None where one of them is None."""
    return None if hours is None or left is None else MINUTES_AN_HOUR * hours + left


def read_order(text):
    """Read an order."""
    for order in range(FULL_ASTERN, FULL_AHEAD + 1):
        if show_order(order) == text:
            return order
    raise NoText(None)


def read_line(text):
    """Read the name of a line."""
    if not is_line(text):
        raise NoText(None)
    return text


def read_engine(text):
    """Read the name of an engine."""
    if not is_bell(text):
        raise NoText(None)
    return text


def read_what(line, text):
    """Read what stands on a line: a name on a tube, an order elsewhere."""
    if line not in TUBES:
        return read_order(text)
    if not is_name(text):
        raise NoText(None)
    return text


def read_row(text):
    """Read a row."""
    refuse_no_text(text)
    words = text.split(" ")
    if len(words) != 3:
        raise NoText(None)
    line = read_line(words[1])
    return (read_minute(words[0]), line, read_what(line, words[2]))


def read_log(text):
    """Read a log."""
    refuse_no_text(text)
    lines = text.split("\n")
    rows = []
    for at, line in enumerate(lines[:-1]):
        row = row_of_line(line, at)
        if at >= MOST_ROWS or (rows and row[0] < rows[-1][0]):
            raise NoText(at)
        rows.append(row)
    # Behind the last line end there stands nothing.
    if lines[-1] != "":
        raise NoText(len(lines) - 1)
    return tuple(rows)


def row_of_line(line, at):
    """Read a row that stands in the line of this number."""
    try:
        return read_row(line)
    except NoText:
        raise NoText(at) from None


def read_card(text):
    """Read a card."""
    refuse_no_text(text)
    card, behind = card_from(text, 0, MOST_DEEP)
    if behind != len(text) or not is_card(card):
        raise NoText(None)
    return card


def card_from(text, at, deep):
    """Read a card, at most so deep, that begins at a place of a text; tell it, and the place behind it."""
    if deep == 0:
        raise NoText(None)
    if text[at:at + 1] == "(":
        return row_card_from(text, at + 1, deep)
    behind = at
    while behind < len(text) and text[behind] not in CARD_SIGNS:
        behind += 1
    word = text[at:behind]
    if text[behind:behind + 1] != "*":
        return (plain_card(word), behind)
    many = read_whole(word, TIMES_FIGURES)
    card, behind = card_from(text, behind + 1, deep - 1)
    return (("again", many, card), behind)


def row_card_from(text, at, deep):
    """Read a row of cards, at most so deep, whose inside begins at a place; tell it, and the place behind it."""
    if text[at:at + 1] == ")":
        return (("row", ()), at + 1)
    cards = []
    while True:
        card, at = card_from(text, at, deep - 1)
        cards.append(card)
        if text[at:at + 1] == ")":
            return (("row", tuple(cards)), at + 1)
        if text[at:at + 2] != "; ":
            raise NoText(None)
        at += 2


def plain_card(text):
    """Read a ring or a wait."""
    word, _, rest = text.partition(" ")
    if word == "wait":
        return ("wait", read_whole(rest, WAIT_FIGURES))
    return ("ring", read_engine(word), read_order(rest))


def read_whole(text, most):
    """Read a whole number, not below 0, of so many figures at most."""
    number = figures_of(text, most)
    if number is None or str(number) != text:
        raise NoText(None)
    return number


def read_signed(text, most):
    """Read a whole number of so many figures at most, with a sign ahead where it is below 0."""
    if not text.startswith("-"):
        return read_whole(text, most)
    number = read_whole(text[1:], most)
    if number == 0:
        raise NoText(None)
    return -number


def figures_of(text, most):
    """Tell the number that a text of so many figures at most writes, be noughts ahead or not; None of any other."""
    if not 1 <= len(text) <= most or not all(["0" <= sign <= "9" for sign in text]):
        return None
    return int(text)
