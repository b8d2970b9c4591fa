"""Where the courses by both logs part, and the farthest (23; 2 and 3 as far as they speak of them)."""

import copy
import unittest

from ringorders.partings import farthest, partings
from tests.helper import TABLE, chances, each_way, random_log, random_table, ships_by_words

SHIP = (0, 0, 0)
FAR = 10 ** 30 - 1
NAMES = ["bridge", "room", "table", "ship", "first", "last", "d", "step"]
# Both engines ahead, and stopped later on: by the room's log both a minute later.
AHEAD = ((2, "port", 1), (2, "star", 1), (6, "port", 0), (6, "star", 0))
LATER = tuple((minute + 1, line, what) for minute, line, what in AHEAD)


def minutes_by_words(bridge, room, table, ship, first, last, d, step):
    """(minute, ship by the bridge's log, ship by the room's) of the minutes behind first, minute by minute."""
    ones = ships_by_words(bridge, table, ship, first, last, 0, step)
    others = ships_by_words(room, table, ship, first, last, d, step)
    return list(zip(range(first, last + 1), ones, others))[1:]


def partings_by_words(*values):
    """The partings, minute by minute."""
    told = []
    for minute, one, other in minutes_by_words(*values):
        if one != other and told and told[-1][1] == minute - 1:
            told[-1] = (told[-1][0], minute)
        elif one != other:
            told.append((minute, minute))
    return told


def farthest_by_words(*values):
    """The farthest, minute by minute."""
    apart = [(max(abs(one[0] - other[0]), abs(one[1] - other[1])), minute)
             for minute, one, other in minutes_by_words(*values)]
    most = max([much for much, _ in apart], default=0)
    return (min(minute for much, minute in apart if much == most), most) if most else (values[4], 0)


class Partings(unittest.TestCase):
    def test_ordinary(self):
        # She is a minute's way farther by the bridge's log from 3 on, till she stops by the room's, too.
        self.assertEqual(partings(AHEAD, LATER, TABLE, SHIP, 0, 20), [(3, 6)])
        self.assertEqual(partings(AHEAD, LATER, TABLE, SHIP, 0, 20, 1), [])
        self.assertEqual(partings(AHEAD, LATER, TABLE, SHIP, 0, 20, -1), [(3, 7)])

    def test_courses_that_never_part(self):
        for last in (0, 1, 600):
            for log in ((), AHEAD):
                self.assertEqual(partings(log, log, TABLE, SHIP, 0, last), [])
        self.assertEqual(partings((), ((0, "port", 0),), TABLE, SHIP, 0, 600), [])
        self.assertEqual(partings(AHEAD, LATER, (0,) * 9, SHIP, 0, 600), [])
        self.assertEqual(partings((), ((0, "aport", 4), (0, "up", "a"), (0, "down", "a")), TABLE, SHIP, 0, 600), [])

    def test_parting_at_first_and_one(self):
        self.assertEqual(partings(AHEAD, (), TABLE, SHIP, 2, 9), [(3, 9)])
        self.assertEqual(partings(AHEAD, (), TABLE, SHIP, 3, 4), [(4, 4)])
        self.assertEqual(partings((), AHEAD, TABLE, SHIP, 0, 1, 2), [(1, 1)])

    def test_parting_at_last(self):
        self.assertEqual(partings(AHEAD, (), TABLE, SHIP, 0, 3), [(3, 3)])
        self.assertEqual(partings(AHEAD, (), TABLE, SHIP, 0, 2), [])
        self.assertEqual(partings(AHEAD, LATER, TABLE, SHIP, 0, 3), [(3, 3)])

    def test_several_stretches(self):
        bridge = AHEAD + ((10, "port", -1), (10, "star", -1), (20, "port", 0), (20, "star", 0))
        room = LATER + ((11, "port", -1), (11, "star", -1), (21, "port", 0), (21, "star", 0))
        self.assertEqual(partings(bridge, room, TABLE, SHIP, 0, 600), [(3, 6), (11, 20)])
        self.assertEqual(partings(bridge, room, TABLE, SHIP, 0, 12), [(3, 6), (11, 12)])
        self.assertEqual(partings(bridge, room, TABLE, SHIP, 4, 12), [(7, 12)])

    def test_stretches_of_one_minute(self):
        bridge = ((0, "port", 1), (0, "star", 1), (1, "port", 0), (1, "star", 0))
        for many in (1, 2, 3):
            more = tuple((minute + 5 * at, line, what) for at in range(many) for minute, line, what in bridge)
            later = tuple((minute + 1, line, what) for minute, line, what in more)
            self.assertEqual(partings(more, later, TABLE, SHIP, 0, 99),
                             [(5 * at + 1, 5 * at + 1) for at in range(many)])

    def test_by_swing_alone(self):
        table = (-4, -3, -2, -1, 0, 1, 2, 3, 4)
        bridge = ((5, "port", 1), (5, "star", -1), (8, "port", 0), (8, "star", 0))
        self.assertEqual(partings(bridge, (), table, SHIP, 0, 12), [(6, 12)])
        self.assertEqual(farthest(bridge, (), table, SHIP, 0, 12), (0, 0))
        room = tuple((minute + 2, line, what) for minute, line, what in bridge)
        self.assertEqual(partings(bridge, room, table, SHIP, 0, 12), [(6, 9)])
        # Alike but by a whole round of headings: they aren't the same.
        bridge = ((0, "port", 4), (0, "star", -4), (1, "port", 0), (1, "star", 0))
        self.assertEqual(partings(bridge, (), table, SHIP, 0, 5, 0, 1), [(1, 5)])

    def test_by_x_and_by_y_alone(self):
        for ship in ((0, 0, 0), (0, 0, 90), (0, 0, 45), (7, -7, -45)):
            self.assertEqual(partings(AHEAD, LATER, TABLE, ship, 0, 20), [(3, 6)])

    def test_first_and_last_alike(self):
        for minute in (0, 3, 5, 99999, FAR):
            self.assertEqual(partings(AHEAD, (), TABLE, SHIP, minute, minute), [])
            self.assertEqual(farthest(AHEAD, (), TABLE, SHIP, minute, minute), (minute, 0))

    def test_six_hundred_apart_and_beyond_all_rows(self):
        standing = AHEAD[:2]
        for first in (0, 2, 50, 99999, 100000, FAR - 600):
            start = max(first, 2)
            self.assertEqual(partings(standing, (), TABLE, SHIP, first, first + 600), [(start + 1, first + 600)])
            self.assertEqual(farthest(standing, (), TABLE, SHIP, first, first + 600),
                             (first + 600, 80 * (first + 600 - start)))
            self.assertEqual(partings(AHEAD, LATER, TABLE, SHIP, max(first, 7), max(first, 7) + 600), [])

    def test_bounds_of_the_differences(self):
        later = tuple((minute + 1440, line, what) for minute, line, what in AHEAD)
        self.assertEqual(partings(AHEAD, later, TABLE, SHIP, 0, 600, 1440), [])
        self.assertEqual(partings(AHEAD, later, TABLE, SHIP, 0, 600, 1439), [(3, 6)])
        self.assertEqual(partings(later, AHEAD, TABLE, SHIP, 1200, 1800, -1440), [])
        self.assertEqual(partings(later, AHEAD, TABLE, SHIP, 1200, 1800, -1439), [(1442, 1445)])
        # Nothing stands at what is below 0.
        self.assertEqual(partings((), ((0, "port", 1),), TABLE, SHIP, 840, 1440, -1440), [])
        self.assertEqual(partings((), ((0, "port", 1),), TABLE, SHIP, 841, 1441, -1440), [(1441, 1441)])
        self.assertEqual(farthest((), ((0, "port", 1),), TABLE, SHIP, 841, 1441, -1440), (1441, 40))

    def test_against_minute_by_minute(self):
        many, ends = set(), set()
        for chance in chances(150, 231):
            bridge, room = (random_log(chance, ("port", "star", "aport"), 12, 90, [-1, 0, 1]) for _ in range(2))
            if chance.random() < 0.5:
                room = tuple((minute + chance.randint(0, 1), line, what) for minute, line, what in bridge)
                room = tuple(sorted(room, key=lambda row: row[0]))
            table = random_table(chance)
            ship = tuple(chance.randint(-99, 99) for _ in range(3))
            first, d, step = chance.randint(0, 40), chance.randint(-5, 5), chance.choice([1, 9, 45, 60])
            values = (bridge, room, table, ship, first, first + chance.randint(0, 120), d, step)
            told = partings(*values)
            self.assertEqual(told, partings_by_words(*values))
            self.assertEqual(farthest(*values), farthest_by_words(*values))
            many.add(len(told))
            ends.add((bool(told), bool(farthest(*values)[1])))
        self.assertTrue({0, 1, 2} <= many)
        self.assertTrue({(False, False), (True, True)} <= ends)

    def test_great_logs_in_ordinary_time(self):
        for chance in chances(3, 232):
            bridge, room = (random_log(chance, ("port", "star"), 40, 600) for _ in range(2))
            values = (bridge, room, random_table(chance), (3, 4, -5), 0, 600, chance.randint(-9, 9), 60)
            self.assertEqual(partings(*values), partings_by_words(*values))
            self.assertEqual(farthest(*values), farthest_by_words(*values))

    def test_left_out_and_by_name(self):
        ship = (0, 0, 44)
        self.assertEqual(partings(AHEAD, LATER, TABLE, ship, 0, 20, step=44), [(3, 6)])
        for told in each_way(partings, [AHEAD, LATER, TABLE, ship, 0, 20, -1, 44], NAMES):
            self.assertEqual(told, [(3, 7)])

    def test_it_is_the_askers_own(self):
        values = (AHEAD, LATER, TABLE, SHIP, 0, 20)
        kept = copy.deepcopy(values)
        told = partings(*values)
        self.assertTrue(all(type(part) is tuple for part in told))
        told.append(None)
        self.assertEqual(partings(*values), [(3, 6)])
        self.assertEqual(values, kept)


class Farthest(unittest.TestCase):
    def test_ordinary(self):
        self.assertEqual(farthest(AHEAD, LATER, TABLE, SHIP, 0, 20), (3, 80))
        self.assertEqual(farthest(AHEAD, (), TABLE, SHIP, 0, 20), (6, 320))
        self.assertEqual(farthest((), AHEAD, TABLE, SHIP, 0, 20), (6, 320))
        self.assertEqual(farthest(AHEAD, (), TABLE, SHIP, 0, 5), (5, 240))
        self.assertEqual(farthest(AHEAD, LATER, TABLE, SHIP, 0, 20, 1), (0, 0))

    def test_the_greater_of_the_two_without_signs(self):
        # By the room's log she goes back and aside, along x or y or both.
        for swing in range(0, 360, 45):
            self.assertEqual(farthest(AHEAD, (), TABLE, (5, 5, swing), 1, 20), (6, 320))
        bridge, room = ((0, "port", 1), (1, "port", 0)), ((0, "star", -1), (1, "star", 0))
        self.assertEqual(farthest(bridge, room, TABLE, SHIP, 0, 5), (1, 70))

    def test_the_first_minute_of_those_alike(self):
        bridge = AHEAD + ((10, "port", -2), (10, "star", -1), (14, "port", 0), (14, "star", 0))
        self.assertEqual(farthest(bridge, (), TABLE, SHIP, 0, 60)[0], 6)

    def test_never_apart(self):
        for first in (0, 5, 77, FAR - 600):
            for d in (-1440, 0, 1440):
                self.assertEqual(farthest((), (), TABLE, SHIP, first, first + 600, d), (first, 0))

    def test_left_out_and_by_name(self):
        self.assertEqual(farthest(AHEAD, LATER, TABLE, (0, 0, 44), 0, 20, step=44), (3, 80))
        for told in each_way(farthest, [AHEAD, LATER, TABLE, (0, 0, 44), 0, 20, -1, 44], NAMES):
            self.assertEqual(told, (4, 160))


if __name__ == "__main__":
    unittest.main()
