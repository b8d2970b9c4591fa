"""One order of both logs' rows by loose pairs, or a ring of two pairs where there is none."""

from ringorders.errors import NoPair
from ringorders.joinings import is_loose
from ringorders.pairs import is_pair
from ringorders.rows import is_house, sent_from
from ringorders.things import is_whole


def in_order(bridge, room, pairs):
    """Tell ("order", list of all rows in one order), or ("ring", one, other) where there is none."""
    refuse_not_loose(bridge, room, pairs)
    for one in pairs:
        for other in pairs:
            if is_ring(bridge, one, other):
                return ("ring", one, other)
    return ("order", merged(bridge, room, pairs))


def refuse_not_loose(bridge, room, thing):
    """Refuse what is no loose pairs."""
    if not is_loose(bridge, room, thing):
        raise NoPair("these are no loose pairs")


def is_ring(bridge, one, other):
    """Tell whether of two pairs, the first sent from the bridge, each came ahead of what the other sent."""
    if sent_from(bridge[one[0]][1]) != "bridge" or sent_from(bridge[other[0]][1]) != "room":
        return False
    return one[1] < other[1] and other[0] < one[0]


def merged(bridge, room, pairs):
    """Tell all rows of both logs in one order, by loose pairs of which no two are a ring."""
    sent = sent_by_room(bridge, pairs)
    order = []
    b = r = 0
    while b < len(bridge) or r < len(room):
        # Where the bridge's next row has to wait, the room's next one needn't: the pairs of both would be a ring.
        if b < len(bridge) and sent.get(b, -1) < r:
            order.append(("bridge", b))
            b += 1
        else:
            order.append(("room", r))
            r += 1
    return order


def sent_by_room(bridge, pairs):
    """Tell, by the number of each of the bridge's rows that came in a pair, that of the room's row that was sent."""
    return {b: r for b, r in pairs if sent_from(bridge[b][1]) == "room"}


def is_in_order(bridge, room, pairs, thing):
    """Tell whether a thing is a list of all rows in one order by loose pairs."""
    refuse_not_loose(bridge, room, pairs)
    if not isinstance(thing, list) or not all([is_place(place) for place in thing]):
        return False
    if numbers_of("bridge", thing) != list(range(len(bridge))) or numbers_of("room", thing) != list(range(len(room))):
        return False
    for b, r in pairs:
        sent_first = thing.index(("bridge", b)) < thing.index(("room", r))
        if sent_first != (sent_from(bridge[b][1]) == "bridge"):
            return False
    return True


def is_place(thing):
    """Tell whether a thing is a tuple (house, number)."""
    if not isinstance(thing, tuple) or len(thing) != 2:
        return False
    house, number = thing
    return is_house(house) and is_whole(number)


def numbers_of(house, places):
    """Tell the numbers of a house's rows, as they stand in an order."""
    return [number for named, number in places if named == house]


def is_round(bridge, room, pairs, thing):
    """Tell whether a thing is a tuple of two of the pairs that are a ring."""
    refuse_not_loose(bridge, room, pairs)
    if not isinstance(thing, tuple) or len(thing) != 2:
        return False
    one, other = thing
    # A pair is looked at by itself first, as to Python a truth is like a number.
    if not is_pair(bridge, room, one) or not is_pair(bridge, room, other) or one not in pairs or other not in pairs:
        return False
    return is_ring(bridge, one, other) or is_ring(bridge, other, one)
