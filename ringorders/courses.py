"""Where a ship is by a log."""

from ringorders.ships import sail
from ringorders.turns import turns_at, unchanged


def course(log, table, ship, first, last, d=0, step=45):
    """Tell where a ship is at a minute last that was as handed in at a minute first, both of the bridge's clock."""
    for start, end in unchanged(log, first + d, last + d):
        port = turns_at(log, "port", table, start)
        star = turns_at(log, "star", table, start)
        ship = sail(ship, port, star, end - start, step)
    return ship
