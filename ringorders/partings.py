"""Where the courses by both logs part, and the farthest that they are apart."""

from ringorders.ships import sail
from ringorders.turns import turns_at, unchanged


def partings(bridge, room, table, ship, first, last, d=0, step=45):
    """Tell the stretches (from, to) of the minutes behind first, to last, at which the two courses aren't the same."""
    stretches = []
    for minute, one, other in courses_behind(bridge, room, table, ship, first, last, d, step):
        if one == other:
            continue
        if stretches and stretches[-1][1] == minute - 1:
            stretches[-1] = (stretches[-1][0], minute)
        else:
            stretches.append((minute, minute))
    return stretches


def farthest(bridge, room, table, ship, first, last, d=0, step=45):
    """Tell (minute, much): the first minute at which the two courses are the farthest apart, along x or y."""
    told = (first, 0)
    for minute, one, other in courses_behind(bridge, room, table, ship, first, last, d, step):
        much = max(abs(one[0] - other[0]), abs(one[1] - other[1]))
        if much > told[1]:
            told = (minute, much)
    return told


def courses_behind(bridge, room, table, ship, first, last, d, step):
    """Tell (minute, ship by the bridge's log, ship by the room's) of each minute behind first, to last."""
    by_bridge = ships_behind(bridge, table, ship, first, last, step)
    by_room = ships_behind(room, table, ship, first + d, last + d, step)
    return [(first + 1 + at, one, other) for at, (one, other) in enumerate(zip(by_bridge, by_room))]


def ships_behind(log, table, ship, first, last, step):
    """Tell where a ship is by a log, and by its own clock, at each minute behind first, to last."""
    told = []
    for start, end in unchanged(log, first, last):
        port = turns_at(log, "port", table, start)
        star = turns_at(log, "star", table, start)
        for _ in range(end - start):
            ship = sail(ship, port, star, 1, step)
            told.append(ship)
    return told
