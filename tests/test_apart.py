"""The stretches in which orders are apart (7)."""

import unittest

from ringorders.apart import apart
from tests.helper import chances, each_way, random_log

BRIDGE = ((0, "port", 2), (10, "port", 0), (10, "star", 3), (30, "port", -1))
ROOM = ((2, "port", 2), (2, "aport", 2), (14, "port", 0), (20, "star", 3), (33, "port", -1))


def stands(log, engine, minute):
    """What stands on an engine, by the document's words."""
    there = [what for when, line, what in log if line == engine and when <= minute]
    return there[-1] if there else None


def apart_by_words(bridge, room, engine, d, first, last):
    """The stretches, minute by minute."""
    told = []
    for minute in range(first, last):
        if stands(bridge, engine, minute) != stands(room, engine, minute + d):
            if told and told[-1][1] == minute:
                told[-1] = (told[-1][0], minute + 1)
            else:
                told.append((minute, minute + 1))
    return told


class Apart(unittest.TestCase):
    def test_ordinary(self):
        self.assertEqual(apart(BRIDGE, ROOM, "port"), [(0, 2), (10, 14), (30, 33)])
        self.assertEqual(apart(BRIDGE, ROOM, "star"), [(10, 20)])

    def test_the_rooms_clock_shows_d_more(self):
        self.assertEqual(apart(BRIDGE, ROOM, "port", 2), [(10, 12), (30, 31)])
        self.assertEqual(apart(BRIDGE, ROOM, "port", -2), [(0, 4), (10, 16), (30, 35)])
        self.assertEqual(apart(BRIDGE, ROOM, "star", 10), [])
        self.assertEqual(apart(BRIDGE, ROOM, "star", 15), [(5, 10)])

    def test_differences_of_a_day(self):
        log = ((0, "port", 2),)
        self.assertEqual(apart(log, log, "port", 1440), [])
        self.assertEqual(apart(log, log, "port", -1440), [(0, 1440)])
        later = ((1440, "port", 2),)
        self.assertEqual(apart(log, later, "port", 1440), [])
        self.assertEqual(apart(log, later, "port", 0), [(0, 1440)])
        self.assertEqual(apart(log, later, "port", -1440), [(0, 2880)])
        self.assertEqual(apart(later, log, "port", 1440), [(0, 1440)])
        self.assertEqual(apart(later, log, "port", -1440), [])

    def test_none_and_an_order_are_unlike(self):
        self.assertEqual(apart(((5, "port", 0),), (), "port"), [(5, 100000)])
        self.assertEqual(apart((), ((5, "port", 0),), "port"), [(5, 100000)])
        self.assertEqual(apart((), ((5, "port", 0),), "port", 3), [(2, 100000)])
        self.assertEqual(apart(((5, "port", 0),), ((7, "port", 0),), "port"), [(5, 7)])
        self.assertEqual(apart(((5, "port", 0),), ((0, "port", 1), (7, "port", 0)), "port"), [(0, 7)])

    def test_nothing_stands_below_0(self):
        log = ((0, "port", 0),)
        self.assertEqual(apart(log, log, "port", -5), [(0, 5)])
        self.assertEqual(apart(log, log, "port", -5, 0, 5), [(0, 5)])
        self.assertEqual(apart(log, log, "port", -5, 5, 9), [])

    def test_behind_the_last_minute_of_a_log(self):
        log = ((99999, "port", 1),)
        self.assertEqual(apart(log, log, "port"), [])
        self.assertEqual(apart(log, log, "port", 1440), [(98559, 99999)])
        self.assertEqual(apart(log, log, "port", -1440), [(99999, 100000)])
        self.assertEqual(apart(log, (), "port"), [(99999, 100000)])

    def test_no_rows(self):
        self.assertEqual(apart((), (), "port"), [])
        self.assertEqual(apart((), (), "star", 1440, 0, 100000), [])

    def test_rows_of_other_lines(self):
        other = ((1, "star", 1), (2, "aport", 1), (3, "astar", 1), (4, "down", "port"), (5, "up", "port"))
        self.assertEqual(apart(other, (), "port"), [])
        self.assertEqual(apart((), other, "port"), [])
        self.assertEqual(apart(other, (), "star"), [(1, 100000)])

    def test_first_and_last(self):
        self.assertEqual(apart(BRIDGE, ROOM, "port", 0, 1, 31), [(1, 2), (10, 14), (30, 31)])
        self.assertEqual(apart(BRIDGE, ROOM, "port", 0, 2, 30), [(10, 14)])
        self.assertEqual(apart(BRIDGE, ROOM, "port", 0, 11, 13), [(11, 13)])
        self.assertEqual(apart(BRIDGE, ROOM, "port", 0, 13, 14), [(13, 14)])
        self.assertEqual(apart(BRIDGE, ROOM, "port", 0, 14, 30), [])
        self.assertEqual(apart(BRIDGE, ROOM, "port", first=33), [])
        self.assertEqual(apart(BRIDGE, ROOM, "port", last=1), [(0, 1)])

    def test_first_and_last_alike(self):
        for minute in (0, 1, 10, 12, 14, 100000):
            self.assertEqual(apart(BRIDGE, ROOM, "port", 0, minute, minute), [])
            self.assertEqual(apart(BRIDGE, (), "port", 0, minute, minute), [])

    def test_stretches_are_as_long_as_can_be(self):
        bridge = tuple((number, "port", number % 2) for number in range(40))
        room = tuple((number, "port", 2) for number in range(40))
        self.assertEqual(apart(bridge, room, "port"), [(0, 100000)])
        self.assertEqual(apart(bridge, bridge, "port", 1, 0, 39), [(0, 39)])
        self.assertEqual(apart(bridge, bridge, "port", 2, 0, 38), [])

    def test_several_rows_of_one_minute(self):
        bridge = ((5, "port", 1), (5, "port", 2), (5, "port", 0), (8, "port", 2), (8, "port", 0))
        self.assertEqual(apart(bridge, ((5, "port", 0),), "port"), [])
        self.assertEqual(apart(bridge, ((5, "port", 0), (5, "port", 2)), "port"), [(5, 100000)])

    def test_forty_rows_each(self):
        bridge = tuple((20 * number, "star", number % 3) for number in range(40))
        room = tuple((20 * number + 7, "star", number % 3) for number in range(40))
        self.assertEqual(apart(bridge, room, "star"), [(20 * number, 20 * number + 7) for number in range(40)])
        self.assertEqual(apart(bridge, room, "star", 7), [])

    def test_by_name(self):
        names = ["bridge", "room", "engine", "d", "first", "last"]
        for told in each_way(apart, [BRIDGE, ROOM, "port", 2, 11, 31], names):
            self.assertEqual(told, [(11, 12), (30, 31)])

    def test_what_is_told_is_the_askers_own(self):
        told = apart(BRIDGE, ROOM, "star")
        self.assertIs(type(told), list)
        self.assertTrue(all(type(stretch) is tuple for stretch in told))
        told.append((0, 1))
        self.assertEqual(apart(BRIDGE, ROOM, "star"), [(10, 20)])

    def test_by_chance(self):
        for chance in chances(400, 3):
            bridge = random_log(chance, ("port", "port", "star", "aport"), 10, 15)
            room = random_log(chance, ("port", "port", "star", "aport"), 10, 15)
            d, first = chance.randint(-8, 8), chance.randint(0, 20)
            last = first + chance.randint(0, 20)
            self.assertEqual(apart(bridge, room, "port", d, first, last),
                             apart_by_words(bridge, room, "port", d, first, last))


if __name__ == "__main__":
    unittest.main()
