"""What several tests need: things of all kinds, logs made by chance, and the document's words taken one by one."""

import copy
import itertools
import random

LINES = ("port", "star", "down", "aport", "astar", "up")
BELLS = ("port", "star", "aport", "astar")


def nested(depth, kind):
    """A list, tuple or dict within another one, so many deep."""
    thing = kind()
    for _ in range(depth - 1):
        thing = {"a": thing} if kind is dict else kind([thing])
    return thing


# None of these is a whole number from 0 to 99999, a text of letters, or something with a row within.
ODD = [
    None, True, False, -1, -5, 10 ** 6, 10 ** 99, -(10 ** 99), 2 ** 64, "", " ", "\n", "0", "7", "-1", "A", "a b",
    "None", "True", "x" * 4000, "port\n", (), [], {}, (None,), [None], {"a": None}, {0: 0}, {1: "port", 2: 3},
    (0,), [0], (0, 0), [0, 0], ((), ()), [[], []], [{}], ({},), ([], {}), {"a": [1, (2, {"b": ()})]},
    nested(12, list), nested(12, tuple), nested(12, dict), [0] * 990, (None,) * 990, ["a"] * 990,
]


def odd_things():
    """All the odd things, new each time."""
    return copy.deepcopy(ODD)


def random_log(chance, lines, most, latest, whats=None):
    """A log of at most so many rows on these lines, by chance."""
    minutes = sorted(chance.randint(0, latest) for _ in range(chance.randint(0, most)))
    log = []
    for minute in minutes:
        line = chance.choice(lines)
        if line in ("down", "up"):
            what = chance.choice(["a", "b"])
        else:
            what = chance.choice(whats if whats is not None else [-1, 0, 1])
        log.append((minute, line, what))
    return tuple(log)


def chances(many, seed=1):
    """So many chance makers, the same ones each time."""
    return [random.Random(1000 * seed + number) for number in range(many)]


def each_way(function, values, names):
    """What a function tells with its values by place, by name, and by name in another order."""
    by_name = dict(zip(names, values))
    other_way = {name: by_name[name] for name in reversed(names)}
    return [function(*values), function(**by_name), function(**other_way)]


def fits_by_words(bridge, room, pair, d, lag):
    """Whether a pair fits d, by the document's words: what was sent came 0 to lag minutes later."""
    (on_bridge, line, _), in_room = bridge[pair[0]], room[pair[1]][0] - d
    sent, came = (on_bridge, in_room) if line in ("port", "star", "down") else (in_room, on_bridge)
    return 0 <= came - sent <= lag


def pairs_by_words(bridge, room):
    """All pairs, by the document's words."""
    return [(b, r) for b, one in enumerate(bridge) for r, other in enumerate(room)
            if one[1] == other[1] and one[2] == other[2]]


def clash_by_words(bridge, room, one, other, lag, low, high):
    """Why two pairs clash, by the document's words: each difference of the stretch taken one by one."""
    if one == other:
        return None
    if one[0] == other[0] or one[1] == other[1]:
        return "row"
    if bridge[one[0]][1] == bridge[other[0]][1] and sorted([one, other]) != sorted([one, other], key=lambda p: p[1]):
        return "order"
    for d in range(low, high + 1):
        if fits_by_words(bridge, room, one, d, lag) and fits_by_words(bridge, room, other, d, lag):
            return None
    return "clocks"


def is_whole(thing):
    """Whether a thing is a whole number."""
    return type(thing) is int


def is_pair_by_words(bridge, room, thing):
    """Whether a thing is a pair, by the document's words."""
    if type(thing) is not tuple or len(thing) != 2 or not all(is_whole(number) for number in thing):
        return False
    return thing in pairs_by_words(bridge, room)


def rises_by_words(bridge, room, thing):
    """Whether a thing is a rising list of pairs, by the document's words."""
    if type(thing) is not list or not all(is_pair_by_words(bridge, room, pair) for pair in thing):
        return False
    return thing == sorted(set(thing))


def is_loose_by_words(bridge, room, thing):
    """Whether a thing is loose pairs, by the document's words."""
    if not rises_by_words(bridge, room, thing):
        return False
    return not any(clash_by_words(bridge, room, one, other, 0, 0, 0) in ("row", "order")
                   for one, other in itertools.combinations(thing, 2))


def is_joining_by_words(bridge, room, thing, d, lag):
    """Whether a thing is a joining for d, by the document's words."""
    if not rises_by_words(bridge, room, thing):
        return False
    if not all(fits_by_words(bridge, room, pair, d, lag) for pair in thing):
        return False
    return not any(clash_by_words(bridge, room, one, other, lag, d, d)
                   for one, other in itertools.combinations(thing, 2))


def is_sharing_by_words(bridge, room, pairs, thing, lag, low, high):
    """Whether a thing is a sharing of these pairs in a stretch, by the document's words."""
    if type(thing) is not list:
        return False
    for crowd in thing:
        if not rises_by_words(bridge, room, crowd) or not crowd:
            return False
    if sorted(pair for crowd in thing for pair in crowd) != pairs:
        return False
    return all(clash_by_words(bridge, room, one, other, lag, low, high)
               for crowd in thing for one, other in itertools.combinations(crowd, 2))


def fitting_by_words(bridge, room, lag, low, high):
    """All pairs that fit some d of a stretch, by the document's words."""
    return [pair for pair in pairs_by_words(bridge, room)
            if any(fits_by_words(bridge, room, pair, d, lag) for d in range(low, high + 1))]


def greatest_by_words(bridge, room, d, lag):
    """All the greatest joinings for d, by a search through all choices."""
    found = [[]]
    for pair in fitting_by_words(bridge, room, lag, d, d):
        found += [joined + [pair] for joined in found
                  if not any(clash_by_words(bridge, room, other, pair, lag, d, d) for other in joined)]
    most = max(len(joined) for joined in found)
    return [joined for joined in found if len(joined) == most]


def small_case(chance, most=5, latest=4):
    """Two small logs, a d and a lag, by chance: many rows alike, several of them in one minute."""
    lines = chance.choice([("port",), ("up",), ("port", "aport"), ("star", "up"), LINES])
    whats = chance.choice([[1], [0, 1]])
    bridge, room = (random_log(chance, lines, most, latest, whats) for _ in range(2))
    return bridge, room, chance.randint(-2, 2), chance.randint(0, 4)


def otherwise(thing):
    """Things like this one with one place otherwise, whatever stands in it: of other kinds, left out, put twice."""
    if isinstance(thing, (list, tuple)):
        kind = type(thing)
        yield (tuple if kind is list else list)(thing)
        for other in (None, {}, kind([thing]), thing[::-1], thing + kind([None]), thing + kind([kind()]), kind()):
            yield other
        for at, part in enumerate(thing):
            yield thing[:at] + thing[at + 1:]
            yield thing[:at] + kind([part, part]) + thing[at + 1:]
            yield thing[:at] + thing[at:at + 2][::-1] + thing[at + 2:]
            for other in otherwise(part):
                yield thing[:at] + kind([other]) + thing[at + 1:]
    elif isinstance(thing, str):
        yield from (None, "", thing + " ", thing.upper(), thing[:-1], [thing], (thing,), 0, True, {thing: thing})
    elif is_whole(thing):
        yield from (None, bool(thing), str(thing), [thing], (thing,), {}, thing - 1, thing + 1, -thing, -1,
                    10 ** 99, -(10 ** 99))


def alike(one, other):
    """Whether two things are alike to their kinds: no truth is like a number, no list like a tuple."""
    return repr(one) == repr(other)


ALONG = [(0, 1), (1, 1), (1, 0), (1, -1), (0, -1), (-1, -1), (-1, 0), (-1, 1)]
TABLE = (-90, -70, -50, -30, 0, 40, 60, 80, 100)


def minute_by_words(ship, port, star, step):
    """Where a ship is behind a minute of these turns, by the document's words."""
    x, y, swing = ship
    along = ALONG[(swing // step) % 8]
    return (x + (port + star) * along[0], y + (port + star) * along[1], swing + port - star)


def order_by_words(log, engine, minute):
    """What stands on an engine at a minute, by the document's words; None where none stands."""
    rung = [what for when, line, what in log if line == engine and when <= minute]
    return rung[-1] if rung else None


def ships_by_words(log, table, ship, first, last, d, step):
    """Where a ship is at each minute from first to last, minute by minute."""
    ships = [ship]
    for minute in range(first, last):
        orders = [order_by_words(log, engine, minute + d) for engine in ("port", "star")]
        port, star = (0 if order is None else table[order + 4] for order in orders)
        ships.append(minute_by_words(ships[-1], port, star, step))
    return ships


def random_table(chance):
    """A table, by chance: often with turns alike, so that a ship goes straight ahead, or on the spot."""
    return tuple(chance.choice([-chance.randint(0, 999), chance.randint(0, 999), -7, 0, 7]) for _ in range(9))


def random_card(chance, deep=4, most=3):
    """A card at most so deep, by chance, with few times and short waits."""
    kind = chance.choice(["ring", "ring", "wait", "row", "again"] if deep > 1 else ["ring", "wait", "wait"])
    if kind == "ring":
        return ("ring", chance.choice(["port", "star"]), chance.randint(-4, 4))
    if kind == "wait":
        return ("wait", chance.randint(1, 9))
    if kind == "row":
        return ("row", tuple(random_card(chance, deep - 1, most) for _ in range(chance.randint(0, most))))
    return ("again", chance.randint(0, 3), random_card(chance, deep - 1, most))


def deeds_by_words(card):
    """What is done while a card is played: (engine, order) of each ring, None of each minute that passes."""
    kind = card[0]
    if kind == "ring":
        return [card[1:]]
    if kind == "wait":
        return [None] * card[1]
    if kind == "row":
        return [deed for part in card[1] for deed in deeds_by_words(part)]
    return deeds_by_words(card[2]) * card[1]


def is_card_by_words(thing, deep=6):
    """Whether a thing is a card, by the document's words."""
    return deep_by_words(thing) <= deep and many_by_words(thing) <= 30


def parts_by_words(thing):
    """The cards that ought to stand within a thing, None of what can't be a card whatever they are."""
    if type(thing) is not tuple or not thing or type(thing[0]) is not str:
        return None
    if thing[0] == "ring" and len(thing) == 3 and type(thing[1]) is str and thing[1] in ("port", "star"):
        return [] if is_whole(thing[2]) and -4 <= thing[2] <= 4 else None
    if thing[0] == "wait" and len(thing) == 2:
        return [] if is_whole(thing[1]) and 1 <= thing[1] <= 999 else None
    if thing[0] == "row" and len(thing) == 2:
        return list(thing[1]) if type(thing[1]) is tuple and len(thing[1]) <= 6 else None
    if thing[0] == "again" and len(thing) == 3:
        return [thing[2]] if is_whole(thing[1]) and 0 <= thing[1] <= 10 ** 9 else None
    return None


def deep_by_words(thing):
    """How deep a card is; a hundred where there is something within that is none."""
    parts = parts_by_words(thing)
    return 100 if parts is None else 1 + max([deep_by_words(part) for part in parts], default=0)


def many_by_words(thing):
    """How many cards there are in a card, itself and those within."""
    return 1 + sum(many_by_words(part) for part in parts_by_words(thing) or [])


def best_by_words(bridge, room, lag, low, high):
    """All the best joinings of a stretch, as (d, joining), by a search through all differences and all choices."""
    found = [(d, joined) for d in range(low, high + 1) for joined in greatest_by_words(bridge, room, d, lag)]
    most = max(len(joined) for _, joined in found)
    return [(d, joined) for d, joined in found if len(joined) == most]


def word_by_words(found, pair):
    """Whether all, some or none of these (d, joining) have a pair."""
    have = [pair in joined for _, joined in found]
    return "all" if all(have) else "some" if any(have) else "none"
