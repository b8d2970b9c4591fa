"""What several tests need: things of all kinds, logs made by chance, and the document's words taken one by one."""

import copy
import random

LINES = ("port", "star", "down", "aport", "astar", "up")
BELLS = ("port", "star", "aport", "astar")


def nested(depth, kind):
    """A list, tuple or dict within another one, so many deep."""
    thing = kind()
    for _ in range(depth - 1):
        thing = {"a": thing} if kind is dict else kind([thing])
    return thing


# None of these is a whole number from 0 to 99999, a text of letters, or something with a row within.
ODD = [
    None, True, False, -1, -5, 10 ** 6, 10 ** 99, -(10 ** 99), 2 ** 64, "", " ", "\n", "0", "7", "-1", "A", "a b",
    "None", "True", "x" * 4000, "port\n", (), [], {}, (None,), [None], {"a": None}, {0: 0}, {1: "port", 2: 3},
    (0,), [0], (0, 0), [0, 0], ((), ()), [[], []], [{}], ({},), ([], {}), {"a": [1, (2, {"b": ()})]},
    nested(12, list), nested(12, tuple), nested(12, dict), [0] * 990, (None,) * 990, ["a"] * 990,
]


def odd_things():
    """All the odd things, new each time."""
    return copy.deepcopy(ODD)


def random_log(chance, lines, most, latest, whats=None):
    """A log of at most so many rows on these lines, by chance."""
    minutes = sorted(chance.randint(0, latest) for _ in range(chance.randint(0, most)))
    log = []
    for minute in minutes:
        line = chance.choice(lines)
        if line in ("down", "up"):
            what = chance.choice(["a", "b"])
        else:
            what = chance.choice(whats if whats is not None else [-1, 0, 1])
        log.append((minute, line, what))
    return tuple(log)


def chances(many, seed=1):
    """So many chance makers, the same ones each time."""
    return [random.Random(1000 * seed + number) for number in range(many)]


def each_way(function, values, names):
    """What a function tells with its values by place, by name, and by name in another order."""
    by_name = dict(zip(names, values))
    other_way = {name: by_name[name] for name in reversed(names)}
    return [function(*values), function(**by_name), function(**other_way)]


def fits_by_words(bridge, room, pair, d, lag):
    """Whether a pair fits d, by the document's words: what was sent came 0 to lag minutes later."""
    (on_bridge, line, _), in_room = bridge[pair[0]], room[pair[1]][0] - d
    sent, came = (on_bridge, in_room) if line in ("port", "star", "down") else (in_room, on_bridge)
    return 0 <= came - sent <= lag


def pairs_by_words(bridge, room):
    """All pairs, by the document's words."""
    return [(b, r) for b, one in enumerate(bridge) for r, other in enumerate(room)
            if one[1] == other[1] and one[2] == other[2]]


def clash_by_words(bridge, room, one, other, lag, low, high):
    """Why two pairs clash, by the document's words: each difference of the stretch taken one by one."""
    if one == other:
        return None
    if one[0] == other[0] or one[1] == other[1]:
        return "row"
    if bridge[one[0]][1] == bridge[other[0]][1] and sorted([one, other]) != sorted([one, other], key=lambda p: p[1]):
        return "order"
    for d in range(low, high + 1):
        if fits_by_words(bridge, room, one, d, lag) and fits_by_words(bridge, room, other, d, lag):
            return None
    return "clocks"
