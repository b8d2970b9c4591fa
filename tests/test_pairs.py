"""Pairs, the differences that a pair fits, and the pairs that fit a difference (9)."""

import copy
import unittest

from ringorders.errors import NoPair
from ringorders.pairs import is_pair, pairs_at, span
from tests.helper import LINES, chances, each_way, fits_by_words, odd_things, pairs_by_words, random_log

BRIDGE = ((0, "port", 2), (10, "aport", 2), (20, "down", "dora"), (20, "port", 0), (30, "up", "dora"), (40, "port", 2))
ROOM = ((5, "port", 2), (8, "aport", 2), (26, "down", "dora"), (27, "up", "dora"), (28, "port", 0), (50, "star", 2))

# Of these none is a pair of the two logs above.
NO_PAIRS = [
    (0, 1), (1, 0), (2, 3), (4, 2), (0, 4), (3, 0), (0, 5), (5, 5), (4, 4), (1, 5), (6, 0), (0, 6), (6, 6), (-1, 0),
    (0, -1), (-6, 0), (0, -6), (-1, -1), (10 ** 99, 0), (0, 10 ** 99), (-(10 ** 99), 0), (99999, 99999),
    (False, 0), (0, False), (False, False), (True, True), (True, 1), (1, True), (None, 0), (0, None), (None, None),
    ("0", "0"), ("0", 0), (0, "0"), ((0,), 0), (0, (0,)), ([0], 0), (0, [0]), ({}, 0), (0, {}), ((0, 0), (0, 0)),
    (), (0,), (0, 0, 0), (0, 0, None), ((0, 0),), [0, 0], [1, 1], [(0, 0)], ([0, 0],), {0: 0}, {0: 0, 1: 1},
    "00", "ab", BRIDGE, ROOM, BRIDGE[0], (BRIDGE[0], ROOM[0]), 0, 1,
]


def spanned(bridge, room, thing, lag=0):
    """The span of a thing, or a word where it is refused."""
    try:
        return span(bridge, room, thing, lag)
    except NoPair:
        return "refused"


class IsPair(unittest.TestCase):
    def test_pairs(self):
        told = [(b, r) for b in range(6) for r in range(6) if is_pair(BRIDGE, ROOM, (b, r))]
        self.assertEqual(told, [(0, 0), (1, 1), (2, 2), (3, 4), (4, 3), (5, 0)])
        for pair in told:
            self.assertIs(is_pair(BRIDGE, ROOM, pair), True)

    def test_none(self):
        for thing in NO_PAIRS:
            self.assertIs(is_pair(BRIDGE, ROOM, thing), False, thing)

    def test_whatever_it_is(self):
        for thing in odd_things():
            # Both logs begin with the same row, so that (0, 0) alone of these is a pair.
            self.assertIs(is_pair(BRIDGE, ROOM, thing), thing == (0, 0), thing)
            self.assertIs(is_pair((), (), thing), False, thing)

    def test_no_rows(self):
        for pair in ((0, 0), (-1, -1), (1, 1)):
            self.assertIs(is_pair((), (), pair), False)
            self.assertIs(is_pair(BRIDGE, (), pair), False)
            self.assertIs(is_pair((), ROOM, pair), False)

    def test_forty_rows(self):
        log = ((0, "up", "a"),) * 40
        self.assertTrue(all(is_pair(log, log, (b, r)) is True for b in range(40) for r in range(40)))
        self.assertIs(is_pair(log, log, (40, 0)), False)
        self.assertIs(is_pair(log, log, (0, 40)), False)
        self.assertIs(is_pair(log, log, (-1, 0)), False)

    def test_both_line_and_what(self):
        bridge = ((0, "port", 0), (0, "star", 0), (0, "up", "a"))
        room = ((0, "aport", 0), (0, "port", 1), (0, "down", "a"), (0, "up", "b"))
        self.assertFalse(any(is_pair(bridge, room, (b, r)) for b in range(3) for r in range(4)))

    def test_whatever_the_minutes(self):
        self.assertIs(is_pair(((0, "up", "a"),), ((99999, "up", "a"),), (0, 0)), True)

    def test_by_name(self):
        for told in each_way(is_pair, [BRIDGE, ROOM, (4, 3)], ["bridge", "room", "thing"]):
            self.assertIs(told, True)

    def test_nothing_is_changed(self):
        for thing in NO_PAIRS + odd_things():
            kept = copy.deepcopy(thing)
            is_pair(BRIDGE, ROOM, thing)
            spanned(BRIDGE, ROOM, thing)
            self.assertEqual(thing, kept)


class Span(unittest.TestCase):
    def test_sent_from_the_bridge(self):
        self.assertEqual(span(BRIDGE, ROOM, (0, 0)), (5, 5))
        self.assertEqual(span(BRIDGE, ROOM, (0, 0), 3), (2, 5))
        self.assertEqual(span(BRIDGE, ROOM, (2, 2), 60), (-54, 6))
        self.assertEqual(span(BRIDGE, ROOM, (5, 0), 1), (-36, -35))
        self.assertEqual(span(((7, "star", 1),), ((7, "star", 1),), (0, 0), 2), (-2, 0))

    def test_sent_from_the_room(self):
        self.assertEqual(span(BRIDGE, ROOM, (1, 1)), (-2, -2))
        self.assertEqual(span(BRIDGE, ROOM, (1, 1), 3), (-2, 1))
        self.assertEqual(span(BRIDGE, ROOM, (4, 3), 60), (-3, 57))
        self.assertEqual(span(((7, "astar", 1),), ((7, "astar", 1),), (0, 0), 2), (0, 2))

    def test_beyond_a_day(self):
        low, high = ((0, "port", 1), (0, "up", "a")), ((99999, "port", 1), (99999, "up", "a"))
        self.assertEqual(span(low, high, (0, 0), 60), (99939, 99999))
        self.assertEqual(span(low, high, (1, 1), 60), (99999, 100059))
        self.assertEqual(span(high, low, (0, 0), 60), (-100059, -99999))
        self.assertEqual(span(high, low, (1, 1), 60), (-99999, -99939))

    def test_refused(self):
        for thing in NO_PAIRS:
            with self.assertRaises(NoPair, msg=thing):
                span(BRIDGE, ROOM, thing)
            with self.assertRaises(NoPair, msg=thing):
                span(BRIDGE, ROOM, thing, 60)

    def test_whatever_it_is(self):
        for thing in odd_things():
            wanted = (5, 5) if thing == (0, 0) else "refused"
            self.assertEqual(spanned(BRIDGE, ROOM, thing), wanted, thing)
            self.assertEqual(spanned((), (), thing), "refused", thing)

    def test_kind(self):
        self.assertIs(type(span(BRIDGE, ROOM, (0, 0))), tuple)

    def test_by_name(self):
        for told in each_way(span, [BRIDGE, ROOM, (0, 0), 3], ["bridge", "room", "pair", "lag"]):
            self.assertEqual(told, (2, 5))

    def test_it_tells_just_the_differences_that_fit(self):
        for chance in chances(100, 6):
            bridge, room = random_log(chance, LINES, 4, 10, [0]), random_log(chance, LINES, 4, 10, [0])
            lag = chance.randint(0, 5)
            for pair in pairs_by_words(bridge, room):
                least, greatest = span(bridge, room, pair, lag)
                for d in range(-20, 21):
                    self.assertEqual(least <= d <= greatest, fits_by_words(bridge, room, pair, d, lag))


class PairsAt(unittest.TestCase):
    def test_ordinary(self):
        self.assertEqual(pairs_at(BRIDGE, ROOM), [])
        self.assertEqual(pairs_at(BRIDGE, ROOM, 5), [(0, 0)])
        self.assertEqual(pairs_at(BRIDGE, ROOM, 5, 3), [(0, 0), (2, 2), (3, 4)])
        self.assertEqual(pairs_at(BRIDGE, ROOM, 0, 6), [(0, 0), (1, 1), (2, 2), (4, 3)])
        self.assertEqual(pairs_at(BRIDGE, ROOM, -35), [(5, 0)])

    def test_what_came_ahead_of_being_sent_fits_not(self):
        bridge, room = ((5, "port", 1), (5, "aport", 1)), ((6, "port", 1), (6, "aport", 1))
        self.assertEqual(pairs_at(bridge, room, 0, 0), [])
        self.assertEqual(pairs_at(bridge, room, 0, 1), [(0, 0)])
        self.assertEqual(pairs_at(bridge, room, 1, 0), [(0, 0), (1, 1)])
        self.assertEqual(pairs_at(bridge, room, 2, 0), [])
        self.assertEqual(pairs_at(bridge, room, 2, 1), [(1, 1)])

    def test_lags(self):
        bridge = ((0, "port", 1),)
        for late in (0, 1, 59, 60, 61):
            room = ((late, "port", 1),)
            self.assertEqual(pairs_at(bridge, room, 0, 60), [(0, 0)] if late <= 60 else [])
            self.assertEqual(pairs_at(bridge, room, 0, 0), [(0, 0)] if late == 0 else [])

    def test_differences_of_a_day(self):
        one, other = ((0, "port", 1), (0, "up", "a")), ((1440, "port", 1), (1440, "up", "a"))
        self.assertEqual(pairs_at(one, other, 1440), [(0, 0), (1, 1)])
        self.assertEqual(pairs_at(one, other, -1440), [])
        self.assertEqual(pairs_at(other, one, -1440), [(0, 0), (1, 1)])
        self.assertEqual(pairs_at(one, other, 1439, 60), [(0, 0)])
        self.assertEqual(pairs_at(other, one, -1439, 60), [(1, 1)])

    def test_no_rows(self):
        self.assertEqual(pairs_at((), ()), [])
        self.assertEqual(pairs_at(BRIDGE, (), 0, 60), [])
        self.assertEqual(pairs_at((), ROOM, 0, 60), [])

    def test_forty_rows_rising(self):
        log = ((0, "up", "a"),) * 40
        self.assertEqual(pairs_at(log, log), [(b, r) for b in range(40) for r in range(40)])

    def test_by_name(self):
        for told in each_way(pairs_at, [BRIDGE, ROOM, 5, 3], ["bridge", "room", "d", "lag"]):
            self.assertEqual(told, [(0, 0), (2, 2), (3, 4)])
        self.assertEqual(pairs_at(BRIDGE, ROOM, lag=6), [(0, 0), (1, 1), (2, 2), (4, 3)])

    def test_what_is_told_is_the_askers_own(self):
        told = pairs_at(BRIDGE, ROOM, 5)
        self.assertIs(type(told), list)
        self.assertIs(type(told[0]), tuple)
        told.append((9, 9))
        self.assertEqual(pairs_at(BRIDGE, ROOM, 5), [(0, 0)])

    def test_by_chance(self):
        for chance in chances(200, 7):
            bridge, room = random_log(chance, LINES, 12, 10), random_log(chance, LINES, 12, 10)
            d, lag = chance.randint(-6, 6), chance.randint(0, 5)
            wanted = [pair for pair in pairs_by_words(bridge, room) if fits_by_words(bridge, room, pair, d, lag)]
            self.assertEqual(pairs_at(bridge, room, d, lag), wanted)


if __name__ == "__main__":
    unittest.main()
