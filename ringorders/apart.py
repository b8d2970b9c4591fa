"""The stretches in which the orders by the two logs are apart."""

from ringorders.standing import standing


def apart(bridge, room, engine, d=0, first=0, last=100000):
    """Tell the stretches, from first to below last, in which what stands by the two logs is unlike."""
    stretches = []
    marks = marks_between(bridge, room, engine, d, first, last)
    for start, end in zip(marks, marks[1:]):
        if standing(bridge, engine, start) == standing(room, engine, start + d):
            continue
        if stretches and stretches[-1][1] == start:
            stretches[-1] = (stretches[-1][0], end)
        else:
            stretches.append((start, end))
    return stretches


def marks_between(bridge, room, engine, d, first, last):
    """Tell first, last and the minutes between them, by the bridge's clock, at which an order may change."""
    rung = [row[0] for row in bridge if row[1] == engine]
    heard = [row[0] - d for row in room if row[1] == engine]
    return sorted({minute for minute in [first, last] + rung + heard if first <= minute <= last})
