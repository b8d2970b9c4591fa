"""Joinings: one with as many pairs as can be, and whether a thing is one (11; 2 and 3 as far as they speak of them)."""

import copy
import itertools
import unittest

from ringorders.joinings import is_joining, joining
from tests.helper import (LINES, alike, chances, each_way, fitting_by_words, greatest_by_words, is_joining_by_words,
                          odd_things, otherwise, random_log, small_case)

# Three rings alike heard as two, one word up, and an answer in the same minute.
BRIDGE = ((0, "port", 1), (0, "port", 1), (1, "port", 1), (1, "aport", 1), (2, "up", "dora"))
ROOM = ((5, "port", 1), (6, "aport", 1), (6, "port", 1), (7, "up", "dora"))
NAMES = ["bridge", "room", "d", "lag"]


class Joining(unittest.TestCase):
    def check(self, bridge, room, d, lag, many):
        told = joining(bridge, room, d, lag)
        self.assertTrue(is_joining_by_words(bridge, room, told, d, lag), told)
        self.assertIs(is_joining(bridge, room, told, d, lag), True)
        self.assertEqual(len(told), many)

    def test_ordinary(self):
        self.check(BRIDGE, ROOM, 5, 1, 4)
        self.check(BRIDGE, ROOM, 5, 0, 4)
        self.check(BRIDGE, ROOM, 6, 0, 1)
        self.check(BRIDGE, ROOM, 4, 0, 1)
        self.check(BRIDGE, ROOM, 3, 0, 0)
        self.check(BRIDGE, ROOM, 4, 2, 2)
        self.check(BRIDGE, ROOM, 3, 60, 2)
        self.check(BRIDGE, ROOM, 7, 60, 2)

    def test_the_only_one(self):
        bridge, room = ((0, "port", 1), (3, "down", "a"), (4, "up", "b")), ((9, "port", 1), (14, "up", "b"))
        self.assertEqual(joining(bridge, room, 9, 0), [(0, 0)])
        self.assertEqual(joining(bridge, room, 10, 0), [(2, 1)])
        self.assertEqual(joining(bridge, room, 9, 1), [(0, 0)])
        self.assertEqual(joining(bridge, room, 8, 1), [(0, 0)])
        self.assertEqual(joining(bridge, room, 10, 1), [(2, 1)])
        self.assertEqual(joining(bridge, room, 11, 1), [(2, 1)])
        self.assertEqual(joining(bridge, room, 12, 1), [])

    def test_what_comes_early_does_not_fit(self):
        bridge, room = ((10, "port", 1), (10, "aport", 1)), ((10, "port", 1), (10, "aport", 1))
        for d, many in ((-2, 1), (-1, 1), (0, 2), (1, 1), (2, 1), (3, 0), (-3, 0)):
            self.check(bridge, room, d, 2, many)

    def test_no_rows(self):
        for bridge, room in (((), ()), (BRIDGE, ()), ((), ROOM)):
            for d in (-1440, 0, 1440):
                for lag in (0, 60):
                    self.assertEqual(joining(bridge, room, d, lag), [])

    def test_differences_and_lags_at_their_bounds(self):
        later = tuple((minute + 1440, line, what) for minute, line, what in BRIDGE)
        self.check(BRIDGE, later, 1440, 0, 5)
        self.check(BRIDGE, later, 1440, 60, 5)
        self.check(later, BRIDGE, -1440, 0, 5)
        self.check(later, BRIDGE, -1440, 60, 5)
        self.check(BRIDGE, later, 0, 60, 0)
        bridge, room = ((0, "port", 1), (0, "up", "a")), ((60, "port", 1), (60, "up", "a"))
        self.check(bridge, room, 0, 60, 1)
        self.check(bridge, room, 0, 59, 0)
        self.check(bridge, room, 120, 60, 1)
        self.check(bridge, room, 121, 60, 0)
        self.check(bridge, room, 60, 60, 2)

    def test_forty_rows(self):
        for chance in chances(6, 21):
            log = random_log(chance, LINES, 0, 0) + tuple((0, chance.choice(("up", "down")), "a") for _ in range(40))
            self.check(log, log, 0, 0, 40)
        bridge = tuple((minute, "star", 0) for minute in range(40))
        self.check(bridge, bridge, 0, 0, 40)
        self.check(bridge, bridge, 10, 0, 30)
        self.check(bridge, bridge, -10, 60, 40)

    def test_four_hundred_pairs_that_fit(self):
        same = ((0, "port", 1),) * 20
        self.check(same, same, 0, 0, 20)
        bridge = tuple((minute, "up", "a") for minute in range(40))
        self.check(bridge, bridge[:10], 0, 60, 10)
        self.check(bridge, bridge[30:], 0, 60, 10)
        lines = ("port", "star", "aport", "astar")
        log = tuple((0, line, 1) for line in lines for _ in range(10))
        self.check(log, log, 0, 0, 40)
        self.check(log, tuple(reversed(log)), 0, 0, 40)

    def test_against_a_search_through_all_choices(self):
        counts = set()
        for chance in chances(200, 22):
            bridge, room, d, lag = small_case(chance)
            wanted = greatest_by_words(bridge, room, d, lag)
            told = joining(bridge, room, d, lag)
            self.assertIn(told, wanted)
            counts.add(len(told))
        self.assertTrue({0, 1, 2, 3} <= counts)

    def test_left_out_and_by_name(self):
        bridge, room = ((5, "port", 1), (6, "up", "a")), ((6, "port", 1), (6, "up", "a"))
        self.assertEqual(joining(bridge, room), [(1, 1)])
        self.assertEqual(joining(bridge, room, lag=1), [(0, 0), (1, 1)])
        self.assertEqual(joining(bridge, room, 1), [(0, 0)])
        for told in each_way(joining, [bridge, room, 1, 0], NAMES):
            self.assertEqual(told, [(0, 0)])

    def test_it_is_the_askers_own(self):
        told = joining(BRIDGE, ROOM, 5, 1)
        kept = list(told)
        told.append(None)
        self.assertEqual(joining(BRIDGE, ROOM, 5, 1), kept)
        self.assertIs(type(kept), list)
        self.assertTrue(all(type(pair) is tuple for pair in kept))


class IsJoining(unittest.TestCase):
    def test_all_choices(self):
        pairs = fitting_by_words(BRIDGE, ROOM, 60, 5, 5)
        told = []
        for many in range(5):
            for choice in itertools.combinations(pairs, many):
                for d, lag in ((5, 0), (5, 1), (6, 1), (4, 60)):
                    wanted = is_joining_by_words(BRIDGE, ROOM, list(choice), d, lag)
                    self.assertIs(is_joining(BRIDGE, ROOM, list(choice), d, lag), wanted, choice)
                    told.append((many, wanted))
        for many in range(5):
            self.assertIn((many, True), told)
        for many in (1, 2, 3, 4):
            self.assertIn((many, False), told)

    def test_it_need_not_be_the_greatest(self):
        self.assertIs(is_joining(BRIDGE, ROOM, [], 5, 1), True)
        self.assertIs(is_joining(BRIDGE, ROOM, [(0, 2)], 5, 1), True)

    def test_rows_in_common(self):
        log = ((0, "up", "a"),) * 3
        self.assertIs(is_joining(log, log, [(0, 0), (0, 1)]), False)
        self.assertIs(is_joining(log, log, [(0, 0), (1, 0)]), False)
        self.assertIs(is_joining(log, log, [(0, 0), (0, 0)]), False)
        self.assertIs(is_joining(log, log, [(0, 0), (1, 1), (2, 1)]), False)
        self.assertIs(is_joining(log, log, [(0, 0), (1, 1), (2, 2)]), True)

    def test_order(self):
        log = ((0, "port", 1), (0, "star", 1), (0, "port", 1), (0, "star", 1))
        self.assertIs(is_joining(log, log, [(0, 2), (2, 0)]), False)
        self.assertIs(is_joining(log, log, [(0, 2), (1, 1), (2, 0)]), False)
        other = ((0, "star", 1), (0, "star", 1), (0, "port", 1), (0, "port", 1))
        self.assertIs(is_joining(log, other, [(0, 2), (1, 0), (2, 3), (3, 1)]), True)
        self.assertIs(is_joining(log, other, [(0, 2), (1, 1), (2, 3), (3, 0)]), False)
        self.assertIs(is_joining(log, other, [(0, 3), (1, 0), (2, 2), (3, 1)]), False)

    def test_all_fit(self):
        bridge, room = ((5, "port", 1), (5, "up", "a")), ((5, "port", 1), (5, "up", "a"))
        both = [(0, 0), (1, 1)]
        for d, lag, wanted in ((0, 0, True), (1, 0, False), (1, 60, False), (-1, 60, False), (0, 60, True)):
            self.assertIs(is_joining(bridge, room, both, d, lag), wanted)
        self.assertIs(is_joining(bridge, room, [(0, 0)], -1, 1), True)
        self.assertIs(is_joining(bridge, room, [(0, 0)], 1, 1), False)
        self.assertIs(is_joining(bridge, room, [(1, 1)], 1, 1), True)
        self.assertIs(is_joining(bridge, room, [(1, 1)], -1, 1), False)

    def test_it_rises(self):
        log = ((0, "up", "a"), (0, "port", 1))
        self.assertIs(is_joining(log, log, [(0, 0), (1, 1)]), True)
        self.assertIs(is_joining(log, log, [(1, 1), (0, 0)]), False)

    def test_no_rows(self):
        for bridge, room in (((), ()), (BRIDGE, ()), ((), ROOM)):
            self.assertIs(is_joining(bridge, room, []), True)
            self.assertIs(is_joining(bridge, room, [(0, 0)]), False)
            self.assertIs(is_joining(bridge, room, [(-1, -1)]), False)

    def test_forty_rows(self):
        log = ((0, "up", "a"),) * 40
        self.assertIs(is_joining(log, log, [(k, k) for k in range(40)]), True)
        self.assertIs(is_joining(log, log, [(k, k) for k in range(41)]), False)
        self.assertIs(is_joining(log, log, [(b, r) for b in range(40) for r in range(40)]), False)
        self.assertIs(is_joining(log, log, [(k, 39 - k) for k in range(40)]), False)

    def test_whatever_it_is(self):
        for thing in odd_things():
            self.assertIs(is_joining(BRIDGE, ROOM, thing, 5, 1), thing == [], thing)

    def test_one_thing_otherwise(self):
        told = [(0, 0), (1, 2), (3, 1), (4, 3)]
        self.assertIs(is_joining(BRIDGE, ROOM, told, 5, 1), True)
        seen = set()
        for thing in otherwise(told):
            if not alike(thing, told):
                wanted = is_joining_by_words(BRIDGE, ROOM, thing, 5, 1)
                self.assertIs(is_joining(BRIDGE, ROOM, thing, 5, 1), wanted, thing)
                seen.add(wanted)
        self.assertEqual(seen, {True, False})

    def test_truths_for_numbers(self):
        log = ((0, "up", "a"),) * 2
        for thing in ([(0, 0), (1, True)], [(0, 0), (True, 1)], [(0, False), (1, 1)], [(False, 0), (1, 1)],
                      [(False, False), (True, True)]):
            self.assertIs(is_joining(log, log, thing), False, thing)

    def test_by_chance(self):
        told = []
        for chance in chances(400, 23):
            bridge, room, d, lag = small_case(chance)
            pairs = fitting_by_words(bridge, room, lag, d - 1, d + 1)
            some = sorted(chance.sample(pairs, min(len(pairs), chance.randint(0, 4))))
            wanted = is_joining_by_words(bridge, room, some, d, lag)
            self.assertIs(is_joining(bridge, room, some, d, lag), wanted)
            told.append((wanted, len(some) > 1))
        self.assertEqual(set(told), {(True, True), (True, False), (False, True), (False, False)})

    def test_left_out_and_by_name(self):
        bridge, room = ((5, "port", 1), (6, "up", "a")), ((6, "port", 1), (6, "up", "a"))
        self.assertIs(is_joining(bridge, room, [(1, 1)]), True)
        self.assertIs(is_joining(bridge, room, [(0, 0)]), False)
        self.assertIs(is_joining(bridge, room, [(0, 0)], 1), True)
        self.assertIs(is_joining(bridge, room, [(0, 0), (1, 1)], lag=1), True)
        for told in each_way(is_joining, [bridge, room, [(0, 0)], 1, 0], ["bridge", "room", "thing", "d", "lag"]):
            self.assertIs(told, True)

    def test_nothing_is_changed(self):
        for thing in odd_things() + [[(0, 0), (1, 2)], [(1, 2), (0, 0)]]:
            kept = copy.deepcopy(thing)
            is_joining(BRIDGE, ROOM, thing, 5, 1)
            self.assertEqual(thing, kept)


if __name__ == "__main__":
    unittest.main()
