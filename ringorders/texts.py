"""How minutes, orders, rows, logs and cards are written."""

from ringorders.rows import TUBES

# The words of the orders from 0 to 4, and of those below 0 without their sign.
ORDER_WORDS = ("stop", "dead", "slow", "half", "full")
MINUTES_AN_HOUR = 60


def show_minute(minute):
    """Write a minute by hours and minutes."""
    hours, left = divmod(minute, MINUTES_AN_HOUR)
    return f"{hours:02d}:{left:02d}"


def show_order(order):
    """Write an order."""
    word = ORDER_WORDS[abs(order)]
    if order == 0:
        return word
    return f"+{word}" if order > 0 else f"-{word}"


def show_row(row):
    """Write a row."""
    minute, line, what = row
    written = what if line in TUBES else show_order(what)
    return f"{show_minute(minute)} {line} {written}"


def show_log(log):
    """Write a log, each row with a line end behind it."""
    return "".join([f"{show_row(row)}\n" for row in log])


def show_card(card):
    """Write a card."""
    kind = card[0]
    if kind == "ring":
        return f"{card[1]} {show_order(card[2])}"
    if kind == "wait":
        return f"wait {card[1]}"
    if kind == "row":
        parts = "; ".join([show_card(part) for part in card[1]])
        return f"({parts})"
    return f"{card[1]}*{show_card(card[2])}"
