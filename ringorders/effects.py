"""What a card does: the orders that stand behind it, its minutes, and how ships move while it is played."""

from ringorders.cards import refuse_no_card
from ringorders.ships import HEADINGS, sail
from ringorders.turns import turns_by


def effect(card, table, orders, step=6):
    """Tell (orders, minutes, moves) of a card that is played while some orders stand."""
    refuse_no_card(card)
    return effect_of(card, table, orders, step)


def played(card, table, orders, ship, step=6):
    """Tell (ship, orders) behind a card that is played while some orders stand."""
    orders, _, moves = effect(card, table, orders, step)
    x, y, swing = ship
    more_x, more_y, much = moves[swing % len(moves)]
    return ((x + more_x, y + more_y, swing + much), orders)


def effect_of(card, table, orders, step):
    """Tell (orders, minutes, moves) of what surely is a card."""
    kind = card[0]
    if kind == "ring":
        return nothing_by(rung(orders, card[1], card[2]), step)
    if kind == "wait":
        return (orders, card[1], repeated(minute_by(table, orders, step), card[1]))
    if kind == "row":
        done = nothing_by(orders, step)
        for part in card[1]:
            done = one_behind(done, effect_of(part, table, done[0], step))
        return done
    return effect_of_again(card[1], card[2], table, orders, step)


def effect_of_again(many, card, table, orders, step):
    """Tell (orders, minutes, moves) of a card that is played many times."""
    if many == 0:
        return nothing_by(orders, step)
    once = effect_of(card, table, orders, step)
    # What a card rings doesn't hang on the orders ahead of it: from the second time on it leaves them as they are.
    later = once if once[0] == orders else effect_of(card, table, once[0], step)
    orders, minutes, moves = later
    return one_behind(once, (orders, minutes * (many - 1), repeated(moves, many - 1)))


def rung(orders, engine, order):
    """Tell the orders that stand behind a ring."""
    port, star = orders
    return (order, star) if engine == "port" else (port, order)


def nothing_by(orders, step):
    """Tell the effect of no minutes, while some orders stand."""
    return (orders, 0, unmoved(len(HEADINGS) * step))


def unmoved(many):
    """Tell the moves, for so many swings, of no minutes."""
    return ((0, 0, 0),) * many


def minute_by(table, orders, step):
    """Tell the moves of one minute by some orders."""
    port, star = orders
    moves = []
    for swing in range(len(HEADINGS) * step):
        x, y, later = sail((0, 0, swing), turns_by(table, port), turns_by(table, star), 1, step)
        moves.append((x, y, later - swing))
    return tuple(moves)


def one_behind(one, other):
    """Tell the effect of two, the second one played from the orders that stand behind the first."""
    return (other[0], one[1] + other[1], moved(one[2], other[2]))


def moved(one, other):
    """Tell the moves of two, one behind the other."""
    told = []
    for swing, (x, y, much) in enumerate(one):
        more_x, more_y, more = other[(swing + much) % len(other)]
        told.append((x + more_x, y + more_y, much + more))
    return tuple(told)


def repeated(moves, many):
    """Tell the moves of so many times the same, one behind the other, by doubling them."""
    told = unmoved(len(moves))
    while many > 0:
        if many % 2 == 1:
            told = moved(told, moves)
        many //= 2
        if many > 0:
            moves = moved(moves, moves)
    return told
