"""What several tests need: things of all kinds, logs made by chance, and the document's words taken one by one."""

import copy
import itertools
import random

LINES = ("port", "star", "down", "aport", "astar", "up")
BELLS = ("port", "star", "aport", "astar")


def nested(depth, kind):
    """A list, tuple or dict within another one, so many deep."""
    thing = kind()
    for _ in range(depth - 1):
        thing = {"a": thing} if kind is dict else kind([thing])
    return thing


# None of these is a whole number from 0 to 99999, a text of letters, or something with a row within.
ODD = [
    None, True, False, -1, -5, 10 ** 6, 10 ** 99, -(10 ** 99), 2 ** 64, "", " ", "\n", "0", "7", "-1", "A", "a b",
    "None", "True", "x" * 4000, "port\n", (), [], {}, (None,), [None], {"a": None}, {0: 0}, {1: "port", 2: 3},
    (0,), [0], (0, 0), [0, 0], ((), ()), [[], []], [{}], ({},), ([], {}), {"a": [1, (2, {"b": ()})]},
    nested(12, list), nested(12, tuple), nested(12, dict), [0] * 990, (None,) * 990, ["a"] * 990,
]


def odd_things():
    """All the odd things, new each time."""
    return copy.deepcopy(ODD)


def random_log(chance, lines, most, latest, whats=None):
    """A log of at most so many rows on these lines, by chance."""
    minutes = sorted(chance.randint(0, latest) for _ in range(chance.randint(0, most)))
    log = []
    for minute in minutes:
        line = chance.choice(lines)
        if line in ("down", "up"):
            what = chance.choice(["a", "b"])
        else:
            what = chance.choice(whats if whats is not None else [-1, 0, 1])
        log.append((minute, line, what))
    return tuple(log)


def chances(many, seed=1):
    """So many chance makers, the same ones each time."""
    return [random.Random(1000 * seed + number) for number in range(many)]


def each_way(function, values, names):
    """What a function tells with its values by place, by name, and by name in another order."""
    by_name = dict(zip(names, values))
    other_way = {name: by_name[name] for name in reversed(names)}
    return [function(*values), function(**by_name), function(**other_way)]


def fits_by_words(bridge, room, pair, d, lag):
    """Whether a pair fits d, by the document's words: what was sent came 0 to lag minutes later."""
    (on_bridge, line, _), in_room = bridge[pair[0]], room[pair[1]][0] - d
    sent, came = (on_bridge, in_room) if line in ("port", "star", "down") else (in_room, on_bridge)
    return 0 <= came - sent <= lag


def pairs_by_words(bridge, room):
    """All pairs, by the document's words."""
    return [(b, r) for b, one in enumerate(bridge) for r, other in enumerate(room)
            if one[1] == other[1] and one[2] == other[2]]


def clash_by_words(bridge, room, one, other, lag, low, high):
    """Why two pairs clash, by the document's words: each difference of the stretch taken one by one."""
    if one == other:
        return None
    if one[0] == other[0] or one[1] == other[1]:
        return "row"
    if bridge[one[0]][1] == bridge[other[0]][1] and sorted([one, other]) != sorted([one, other], key=lambda p: p[1]):
        return "order"
    for d in range(low, high + 1):
        if fits_by_words(bridge, room, one, d, lag) and fits_by_words(bridge, room, other, d, lag):
            return None
    return "clocks"


def is_whole(thing):
    """Whether a thing is a whole number."""
    return type(thing) is int


def is_pair_by_words(bridge, room, thing):
    """Whether a thing is a pair, by the document's words."""
    if type(thing) is not tuple or len(thing) != 2 or not all(is_whole(number) for number in thing):
        return False
    return thing in pairs_by_words(bridge, room)


def rises_by_words(bridge, room, thing):
    """Whether a thing is a rising list of pairs, by the document's words."""
    if type(thing) is not list or not all(is_pair_by_words(bridge, room, pair) for pair in thing):
        return False
    return thing == sorted(set(thing))


def is_loose_by_words(bridge, room, thing):
    """Whether a thing is loose pairs, by the document's words."""
    if not rises_by_words(bridge, room, thing):
        return False
    return not any(clash_by_words(bridge, room, one, other, 0, 0, 0) in ("row", "order")
                   for one, other in itertools.combinations(thing, 2))


def is_joining_by_words(bridge, room, thing, d, lag):
    """Whether a thing is a joining for d, by the document's words."""
    if not rises_by_words(bridge, room, thing):
        return False
    if not all(fits_by_words(bridge, room, pair, d, lag) for pair in thing):
        return False
    return not any(clash_by_words(bridge, room, one, other, lag, d, d)
                   for one, other in itertools.combinations(thing, 2))


def is_sharing_by_words(bridge, room, pairs, thing, lag, low, high):
    """Whether a thing is a sharing of these pairs in a stretch, by the document's words."""
    if type(thing) is not list:
        return False
    for crowd in thing:
        if not rises_by_words(bridge, room, crowd) or not crowd:
            return False
    if sorted(pair for crowd in thing for pair in crowd) != pairs:
        return False
    return all(clash_by_words(bridge, room, one, other, lag, low, high)
               for crowd in thing for one, other in itertools.combinations(crowd, 2))


def fitting_by_words(bridge, room, lag, low, high):
    """All pairs that fit some d of a stretch, by the document's words."""
    return [pair for pair in pairs_by_words(bridge, room)
            if any(fits_by_words(bridge, room, pair, d, lag) for d in range(low, high + 1))]


def greatest_by_words(bridge, room, d, lag):
    """All the greatest joinings for d, by a search through all choices."""
    found = [[]]
    for pair in fitting_by_words(bridge, room, lag, d, d):
        found += [joined + [pair] for joined in found
                  if not any(clash_by_words(bridge, room, other, pair, lag, d, d) for other in joined)]
    most = max(len(joined) for joined in found)
    return [joined for joined in found if len(joined) == most]


def small_case(chance, most=5, latest=4):
    """Two small logs, a d and a lag, by chance: many rows alike, several of them in one minute."""
    lines = chance.choice([("port",), ("up",), ("port", "aport"), ("star", "up"), LINES])
    whats = chance.choice([[1], [0, 1]])
    bridge, room = (random_log(chance, lines, most, latest, whats) for _ in range(2))
    return bridge, room, chance.randint(-2, 2), chance.randint(0, 4)


def otherwise(thing):
    """Things like this one with one place otherwise, whatever stands in it: of other kinds, left out, put twice."""
    if isinstance(thing, (list, tuple)):
        kind = type(thing)
        yield (tuple if kind is list else list)(thing)
        for other in (None, {}, kind([thing]), thing[::-1], thing + kind([None]), thing + kind([kind()]), kind()):
            yield other
        for at, part in enumerate(thing):
            yield thing[:at] + thing[at + 1:]
            yield thing[:at] + kind([part, part]) + thing[at + 1:]
            yield thing[:at] + thing[at:at + 2][::-1] + thing[at + 2:]
            for other in otherwise(part):
                yield thing[:at] + kind([other]) + thing[at + 1:]
    elif isinstance(thing, str):
        yield from (None, "", thing + " ", thing.upper(), thing[:-1], [thing], (thing,), 0, True, {thing: thing})
    elif is_whole(thing):
        yield from (None, bool(thing), str(thing), [thing], (thing,), {}, thing - 1, thing + 1, -thing, -1,
                    10 ** 99, -(10 ** 99))


def alike(one, other):
    """Whether two things are alike to their kinds: no truth is like a number, no list like a tuple."""
    return repr(one) == repr(other)
