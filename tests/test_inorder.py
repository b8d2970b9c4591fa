"""Loose pairs, one order of both logs' rows, and rings (17; 2 and 3 as far as they speak of them)."""

import copy
import itertools
import unittest

from ringorders.errors import NoPair
from ringorders.inorder import in_order, is_in_order, is_round
from ringorders.joinings import joining
from tests.helper import (LINES, chances, each_way, is_loose_by_words, odd_things, otherwise, pairs_by_words,
                          random_log)

SENT_FROM = {"port": "bridge", "star": "bridge", "down": "bridge", "aport": "room", "astar": "room", "up": "room"}

# A ring answered and a word in between; the bridge's third row and the room's first one are in no pair.
BRIDGE = ((0, "port", 1), (4, "aport", 1), (5, "star", 3), (5, "down", "dora"))
ROOM = ((0, "up", "eva"), (1, "port", 1), (2, "aport", 1), (6, "down", "dora"))
PAIRS = [(0, 1), (1, 2), (3, 3)]
# These alone have to be: 0 of the bridge ahead of 1 of the room, 2 of the room ahead of 1 of the bridge.
ORDER = [("bridge", 0), ("room", 0), ("room", 1), ("room", 2), ("bridge", 1), ("bridge", 2), ("bridge", 3), ("room", 3)]

# In either log what came stands ahead of what was sent.
RING_BRIDGE = ((0, "aport", 1), (0, "port", 1))
RING_ROOM = ((0, "port", 1), (0, "aport", 1))
RING_PAIRS = [(0, 1), (1, 0)]


def places(bridge, room):
    """All rows of both logs as (house, number)."""
    return [("bridge", number) for number in range(len(bridge))] + [("room", number) for number in range(len(room))]


def needs(bridge, room, pairs):
    """All tuples of two places of which the first one has to stand ahead of the other."""
    told = [(("bridge", number), ("bridge", number + 1)) for number in range(len(bridge) - 1)]
    told += [(("room", number), ("room", number + 1)) for number in range(len(room) - 1)]
    for b, r in pairs:
        two = (("bridge", b), ("room", r))
        told.append(two if SENT_FROM[bridge[b][1]] == "bridge" else two[::-1])
    return told


def is_in_order_by_words(bridge, room, pairs, thing):
    """Whether a thing is a list of all rows in one order, by the document's words."""
    if type(thing) is not list or len(thing) != len(bridge) + len(room):
        return False
    if sorted(repr(place) for place in thing) != sorted(repr(place) for place in places(bridge, room)):
        return False
    return all(thing.index(one) < thing.index(other) for one, other in needs(bridge, room, pairs))


def has_order(bridge, room, pairs):
    """Whether all rows stand in one order: those that need none of the others are taken away as long as can be."""
    left, wanted = set(places(bridge, room)), needs(bridge, room, pairs)
    while left:
        free = {place for place in left if not any(other == place and one in left for one, other in wanted)}
        if not free:
            return False
        left -= free
    return True


def is_ring_by_words(bridge, pairs, thing):
    """Whether a thing is a ring of two of the pairs, by the document's words."""
    if type(thing) is not tuple or len(thing) != 2:
        return False
    if any(repr(pair) not in [repr(held) for held in pairs] for pair in thing):
        return False
    for one, other in (thing, thing[::-1]):
        if SENT_FROM[bridge[one[0]][1]] == "bridge" and SENT_FROM[bridge[other[0]][1]] == "room":
            # The first came in the room, the other one was sent there; in the bridge's log the other way about.
            if one[1] < other[1] and other[0] < one[0]:
                return True
    return False


def loose_case(chance, most=5):
    """Two small logs and loose pairs of theirs, by chance."""
    lines = chance.choice([("port", "aport"), ("port", "aport", "up"), LINES])
    bridge, room = (random_log(chance, lines, most, 5, [1]) for _ in range(2))
    pairs = []
    for pair in chance.sample(pairs_by_words(bridge, room), len(pairs_by_words(bridge, room))):
        if is_loose_by_words(bridge, room, sorted(pairs + [pair])):
            pairs = sorted(pairs + [pair])
    return bridge, room, pairs


class InOrder(unittest.TestCase):
    def check(self, bridge, room, pairs):
        told = in_order(bridge, room, pairs)
        self.assertIs(type(told), tuple)
        if has_order(bridge, room, pairs):
            self.assertEqual((len(told), told[0]), (2, "order"))
            self.assertTrue(is_in_order_by_words(bridge, room, pairs, told[1]), told)
            self.assertIs(is_in_order(bridge, room, pairs, told[1]), True)
        else:
            self.assertEqual((len(told), told[0]), (3, "ring"))
            self.assertTrue(is_ring_by_words(bridge, pairs, told[1:]), told)
            self.assertIs(is_round(bridge, room, pairs, told[1:]), True)
            self.assertIs(is_round(bridge, room, pairs, told[:0:-1]), True)
        return told[0]

    def test_ordinary(self):
        self.assertEqual(self.check(BRIDGE, ROOM, PAIRS), "order")

    def test_the_only_order(self):
        bridge, room = ((0, "port", 1), (2, "aport", 1)), ((0, "port", 1), (2, "aport", 1))
        wanted = [("bridge", 0), ("room", 0), ("room", 1), ("bridge", 1)]
        self.assertEqual(in_order(bridge, room, [(0, 0), (1, 1)]), ("order", wanted))
        self.assertEqual(in_order(bridge, (), []), ("order", [("bridge", 0), ("bridge", 1)]))
        self.assertEqual(in_order((), room, []), ("order", [("room", 0), ("room", 1)]))
        wanted = [("room", 0), ("room", 1), ("bridge", 0), ("bridge", 1)]
        self.assertEqual(in_order(((0, "up", "a"), (0, "star", 0)), ((0, "down", "b"), (9, "up", "a")), [(0, 1)]),
                         ("order", wanted))

    def test_a_ring_within_one_minute(self):
        told = in_order(RING_BRIDGE, RING_ROOM, RING_PAIRS)
        self.assertEqual((told[0], set(told[1:])), ("ring", {(0, 1), (1, 0)}))
        self.assertEqual(len(told), 3)
        self.check(RING_BRIDGE, RING_ROOM, RING_PAIRS)
        self.assertEqual(joining(RING_BRIDGE, RING_ROOM), RING_PAIRS)
        for pairs in ([(0, 1)], [(1, 0)], []):
            self.assertEqual(self.check(RING_BRIDGE, RING_ROOM, pairs), "order")

    def test_no_ring_where_they_go_on_in_turn(self):
        self.assertEqual(self.check(RING_BRIDGE[::-1], RING_ROOM, [(0, 0), (1, 1)]), "order")
        self.assertEqual(self.check(RING_BRIDGE, RING_ROOM[::-1], [(0, 0), (1, 1)]), "order")
        both = ((0, "port", 1), (0, "star", 1))
        self.assertEqual(self.check(both, both[::-1], [(0, 1), (1, 0)]), "order")
        both = ((0, "aport", 1), (0, "up", "a"))
        self.assertEqual(self.check(both, both[::-1], [(0, 1), (1, 0)]), "order")

    def test_loose_pairs_that_fit_no_one_difference(self):
        bridge, room = ((0, "aport", 1), (500, "port", 1)), ((0, "port", 1), (900, "aport", 1))
        self.assertEqual(self.check(bridge, room, [(0, 1), (1, 0)]), "ring")
        bridge, room = ((0, "port", 1), (500, "aport", 1)), ((0, "port", 1), (99999, "aport", 1))
        self.assertEqual(self.check(bridge, room, [(0, 0), (1, 1)]), "order")

    def test_a_ring_by_rows_in_between(self):
        bridge = ((0, "up", "a"), (1, "star", 0), (2, "up", "b"), (3, "down", "c"))
        room = ((0, "down", "c"), (1, "up", "a"), (2, "port", 1), (3, "up", "b"))
        told = in_order(bridge, room, [(0, 1), (2, 3), (3, 0)])
        self.assertEqual(told[0], "ring")
        self.check(bridge, room, [(0, 1), (2, 3), (3, 0)])
        self.check(bridge, room, [(0, 1), (3, 0)])
        self.check(bridge, room, [(2, 3), (3, 0)])
        self.assertEqual(self.check(bridge, room, [(0, 1), (2, 3)]), "order")

    def test_no_rows(self):
        self.assertEqual(in_order((), (), []), ("order", []))
        for bridge, room in (((), ()), (BRIDGE, ()), ((), ROOM)):
            self.assertEqual(self.check(bridge, room, []), "order")

    def test_forty_rows(self):
        bridge = tuple((number // 3, LINES[number % 6], "a" if LINES[number % 6] in ("up", "down") else 1)
                       for number in range(40))
        self.assertEqual(self.check(bridge, bridge, [(k, k) for k in range(40)]), "order")
        turned = tuple(row for at in range(0, 40, 2) for row in bridge[at:at + 2][::-1])
        pairs = sorted(joining(bridge, turned, 0, 60))
        self.check(bridge, turned, pairs)
        self.check(turned, bridge, sorted((r, b) for b, r in pairs))
        self.assertEqual(self.check(bridge, turned, []), "order")

    def test_by_chance(self):
        seen = []
        for chance in chances(300, 71):
            bridge, room, pairs = loose_case(chance)
            seen.append((self.check(bridge, room, pairs), len(pairs) > 2))
        self.assertEqual(len(set(seen)), 4)

    def test_of_joinings(self):
        for chance in chances(100, 72):
            bridge, room = (random_log(chance, ("port", "aport", "up"), 8, 3, [1]) for _ in range(2))
            pairs = joining(bridge, room, 0, chance.randint(0, 2))
            if self.check(bridge, room, pairs) == "ring":
                told = in_order(bridge, room, pairs)
                self.assertEqual(len({bridge[b][0] for b, _ in told[1:]} | {room[r][0] for _, r in told[1:]}), 1)

    def test_by_name(self):
        for told in each_way(in_order, [RING_BRIDGE, RING_ROOM, [(1, 0)]], ["bridge", "room", "pairs"]):
            self.assertEqual(told[0], "order")

    def test_nothing_is_changed_and_what_is_told_is_the_askers_own(self):
        pairs = list(PAIRS)
        told = in_order(BRIDGE, ROOM, pairs)
        kept = copy.deepcopy(told)
        told[1].append(None)
        told[1][0] = None
        self.assertEqual(in_order(BRIDGE, ROOM, pairs), kept)
        self.assertEqual(pairs, PAIRS)


class NoLoosePairs(unittest.TestCase):
    def refused(self, bridge, room, thing):
        for function, more in ((in_order, ()), (is_in_order, (ORDER,)), (is_in_order, (None,)),
                               (is_round, ((PAIRS[0], PAIRS[1]),)), (is_round, (None,)), (is_round, ([],))):
            with self.assertRaises(NoPair, msg=thing):
                function(bridge, room, thing, *more)

    def test_whatever_it_is(self):
        for thing in odd_things():
            if thing != []:
                self.refused(BRIDGE, ROOM, thing)
                self.refused((), (), thing)

    def test_no_pairs_within(self):
        for pair in ((0, 0), (9, 9), (-1, -1), (True, 2), (1, True), [0, 1], (0, 1, 1), "01", None, {}, 0, ()):
            for thing in ([pair], [pair] + PAIRS, PAIRS + [pair], PAIRS[:1] + [pair] + PAIRS[1:]):
                self.refused(BRIDGE, ROOM, thing)

    def test_they_do_not_rise(self):
        for thing in (PAIRS[::-1], [PAIRS[1], PAIRS[0]], PAIRS + PAIRS, [PAIRS[0]] * 2, tuple(PAIRS), dict(PAIRS)):
            self.refused(BRIDGE, ROOM, thing)

    def test_they_clash_by_row_or_order(self):
        log = ((0, "port", 1), (5, "port", 1), (9, "port", 1))
        for thing in ([(0, 0), (0, 1)], [(0, 0), (1, 0)], [(0, 1), (1, 0)], [(0, 0), (1, 2), (2, 1)], [(0, 2), (2, 0)],
                      [(0, 1), (1, 2), (2, 2)], [(0, 1), (1, 2), (2, 0)]):
            self.refused(log, log, thing)
        for thing in ([(0, 0), (1, 1)], [(0, 0), (1, 2)], [(0, 1), (2, 2)], [(0, 2)], []):
            self.assertEqual(in_order(log, log, thing)[0], "order")

    def test_one_thing_otherwise(self):
        seen = set()
        for thing in otherwise(PAIRS):
            seen.add(is_loose_by_words(BRIDGE, ROOM, thing))
            if is_loose_by_words(BRIDGE, ROOM, thing):
                self.assertEqual(in_order(BRIDGE, ROOM, thing)[0], "order")
                self.assertIs(is_round(BRIDGE, ROOM, thing, (PAIRS[0], PAIRS[1])), False)
            else:
                self.refused(BRIDGE, ROOM, thing)
        self.assertEqual(seen, {True, False})

    def test_nothing_is_changed(self):
        for thing in odd_things() + [PAIRS, PAIRS[::-1]]:
            kept = copy.deepcopy(thing)
            for function, more in ((in_order, ()), (is_in_order, (thing,)), (is_round, (thing,))):
                try:
                    function(BRIDGE, ROOM, thing, *more)
                except NoPair:
                    pass
                self.assertEqual(thing, kept)


class IsInOrder(unittest.TestCase):
    def test_ordinary(self):
        self.assertIs(is_in_order(BRIDGE, ROOM, PAIRS, ORDER), True)
        self.assertIs(is_in_order(BRIDGE, ROOM, PAIRS, ("order", ORDER)), False)

    def test_all_orders(self):
        bridge, room = ((0, "port", 1), (2, "aport", 1), (3, "down", "a")), ((1, "port", 1), (1, "aport", 1))
        for pairs in ([(0, 0), (1, 1)], [(0, 0)], [(1, 1)], []):
            told = []
            for order in itertools.permutations(places(bridge, room)):
                wanted = is_in_order_by_words(bridge, room, pairs, list(order))
                self.assertIs(is_in_order(bridge, room, pairs, list(order)), wanted)
                told.append(wanted)
            self.assertEqual(sum(told), {0: 10, 1: 6 if pairs == [(0, 0)] else 3, 2: 1}[len(pairs)])

    def test_where_there_is_none(self):
        for order in itertools.permutations(places(RING_BRIDGE, RING_ROOM)):
            self.assertIs(is_in_order(RING_BRIDGE, RING_ROOM, RING_PAIRS, list(order)), False)

    def test_no_rows(self):
        self.assertIs(is_in_order((), (), [], []), True)
        for thing in odd_things():
            self.assertIs(is_in_order((), (), [], thing), thing == [], thing)

    def test_whatever_it_is(self):
        for thing in odd_things():
            self.assertIs(is_in_order(BRIDGE, ROOM, PAIRS, thing), False, thing)
            for at in range(len(ORDER)):
                other = ORDER[:at] + [thing] + ORDER[at + 1:]
                self.assertIs(is_in_order(BRIDGE, ROOM, PAIRS, other), False, other)

    def test_one_thing_otherwise(self):
        seen = set()
        for thing in otherwise(ORDER):
            wanted = is_in_order_by_words(BRIDGE, ROOM, PAIRS, thing)
            self.assertIs(is_in_order(BRIDGE, ROOM, PAIRS, thing), wanted, thing)
            seen.add(wanted)
        self.assertEqual(seen, {True, False})

    def test_houses_and_numbers(self):
        for at, (house, number) in enumerate(ORDER):
            for other in ((house, bool(number)), (house, str(number)), (house, -1), (house, 4), (house, 10 ** 99),
                          [house, number], (house,), (house, number, number), ("house", number), (house.upper(), number),
                          ("room" if house == "bridge" else "bridge", number), (None, number), (number, house),
                          (house, None), ([house], number), (house, [number]), ({}, number), (True, number)):
                self.assertIs(is_in_order(BRIDGE, ROOM, PAIRS, ORDER[:at] + [other] + ORDER[at + 1:]), False, other)

    def test_of_no_other_houses(self):
        for other in (("tube", 0), ("", 0), ("Bridge", 0), (None, 0), (True, 0), ((), 0), ("bridge", None)):
            for at in range(len(ORDER) + 1):
                self.assertIs(is_in_order(BRIDGE, ROOM, PAIRS, ORDER[:at] + [other] + ORDER[at:]), False, other)
            self.assertIs(is_in_order((), (), [], [other]), False, other)

    def test_forty_rows(self):
        log = tuple((0, "up", "a") for _ in range(40))
        pairs = [(k, k) for k in range(40)]
        order = [("room", k) for k in range(40)] + [("bridge", k) for k in range(40)]
        self.assertIs(is_in_order(log, log, pairs, order), True)
        self.assertIs(is_in_order(log, log, pairs, order[::-1]), False)
        self.assertIs(is_in_order(log, log, pairs, order[40:] + order[:40]), False)
        self.assertIs(is_in_order(log, log, [], order[40:] + order[:40]), True)

    def test_by_name(self):
        for told in each_way(is_in_order, [BRIDGE, ROOM, PAIRS, ORDER], ["bridge", "room", "pairs", "thing"]):
            self.assertIs(told, True)

    def test_nothing_is_changed(self):
        for thing in odd_things() + [ORDER, ORDER[::-1]]:
            kept = copy.deepcopy(thing)
            is_in_order(BRIDGE, ROOM, PAIRS, thing)
            self.assertEqual(thing, kept)


class IsRound(unittest.TestCase):
    def test_ordinary(self):
        self.assertIs(is_round(RING_BRIDGE, RING_ROOM, RING_PAIRS, ((0, 1), (1, 0))), True)
        self.assertIs(is_round(RING_BRIDGE, RING_ROOM, RING_PAIRS, ((1, 0), (0, 1))), True)
        self.assertIs(is_round(RING_BRIDGE, RING_ROOM, RING_PAIRS, ("ring", (0, 1), (1, 0))), False)

    def test_two_of_the_pairs(self):
        for pairs in ([], [(0, 1)], [(1, 0)]):
            self.assertIs(is_round(RING_BRIDGE, RING_ROOM, pairs, ((0, 1), (1, 0))), False)
        for pair in RING_PAIRS:
            self.assertIs(is_round(RING_BRIDGE, RING_ROOM, RING_PAIRS, (pair, pair)), False)

    def test_no_ring(self):
        for one, other in itertools.product(PAIRS, repeat=2):
            self.assertIs(is_round(BRIDGE, ROOM, PAIRS, (one, other)), False)
        both = ((0, "port", 1), (0, "star", 1))
        self.assertIs(is_round(both, both[::-1], [(0, 1), (1, 0)], ((0, 1), (1, 0))), False)
        both = ((0, "aport", 1), (0, "up", "a"))
        self.assertIs(is_round(both, both[::-1], [(0, 1), (1, 0)], ((0, 1), (1, 0))), False)

    def test_ahead_in_one_log_alone(self):
        for bridge, room in ((RING_BRIDGE[::-1], RING_ROOM), (RING_BRIDGE, RING_ROOM[::-1]),
                             (RING_BRIDGE[::-1], RING_ROOM[::-1])):
            pairs = sorted(pairs_by_words(bridge, room))
            self.assertEqual(len(pairs), 2)
            self.assertIs(is_round(bridge, room, pairs, tuple(pairs)), False)
            self.assertIs(is_round(bridge, room, pairs, tuple(pairs[::-1])), False)

    def test_whatever_it_is(self):
        for thing in odd_things():
            self.assertIs(is_round(RING_BRIDGE, RING_ROOM, RING_PAIRS, thing), False, thing)
            self.assertIs(is_round((), (), [], thing), False, thing)
            for pair in RING_PAIRS:
                self.assertIs(is_round(RING_BRIDGE, RING_ROOM, RING_PAIRS, (pair, thing)), False, thing)
                self.assertIs(is_round(RING_BRIDGE, RING_ROOM, RING_PAIRS, (thing, pair)), False, thing)

    def test_one_thing_otherwise(self):
        seen = set()
        for thing in otherwise(tuple(RING_PAIRS)):
            wanted = is_ring_by_words(RING_BRIDGE, RING_PAIRS, thing)
            self.assertIs(is_round(RING_BRIDGE, RING_ROOM, RING_PAIRS, thing), wanted, thing)
            seen.add(wanted)
        self.assertEqual(seen, {True, False})

    def test_truths_for_numbers(self):
        for thing in (((False, 1), (1, 0)), ((0, True), (1, 0)), ((0, 1), (True, 0)), ((0, 1), (1, False)),
                      ((False, True), (True, False))):
            self.assertIs(is_round(RING_BRIDGE, RING_ROOM, RING_PAIRS, thing), False)

    def test_by_chance(self):
        seen = set()
        for chance in chances(150, 73):
            bridge, room, pairs = loose_case(chance)
            for thing in itertools.product(pairs, repeat=2):
                wanted = is_ring_by_words(bridge, pairs, thing)
                self.assertIs(is_round(bridge, room, pairs, thing), wanted)
                seen.add(wanted)
                self.assertTrue(not wanted or not has_order(bridge, room, pairs))
        self.assertEqual(seen, {True, False})

    def test_by_name(self):
        names = ["bridge", "room", "pairs", "thing"]
        for told in each_way(is_round, [RING_BRIDGE, RING_ROOM, RING_PAIRS, ((0, 1), (1, 0))], names):
            self.assertIs(told, True)

    def test_nothing_is_changed(self):
        pairs = list(RING_PAIRS)
        for thing in odd_things() + [tuple(RING_PAIRS), list(RING_PAIRS)]:
            kept = copy.deepcopy(thing)
            is_round(RING_BRIDGE, RING_ROOM, pairs, thing)
            self.assertEqual((thing, pairs), (kept, RING_PAIRS))


if __name__ == "__main__":
    unittest.main()
