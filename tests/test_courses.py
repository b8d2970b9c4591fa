"""Where a ship is by a log (22; 2 and 3 as far as they speak of them)."""

import unittest

from ringorders.courses import course
from tests.helper import TABLE, chances, each_way, random_log, ships_by_words

LOG = ((2, "port", 1), (2, "star", 1), (5, "star", 0), (5, "aport", 4), (6, "port", 4), (6, "port", 0), (9, "star", -1))
FAR = 10 ** 30 - 1
NAMES = ["log", "table", "ship", "first", "last", "d", "step"]


def by_minutes(log, table, ship, first, last, d, step):
    """Where a ship is at last, minute by minute."""
    return ships_by_words(log, table, ship, first, last, d, step)[-1]


class Course(unittest.TestCase):
    def test_ordinary(self):
        # From 2 to 5 both slow ahead; a minute on port alone, then stopped; from 9 on slow astern on star.
        self.assertEqual(course(LOG, TABLE, (0, 0, 0), 0, 2), (0, 0, 0))
        self.assertEqual(course(LOG, TABLE, (0, 0, 0), 0, 5), (0, 240, 0))
        self.assertEqual(course(LOG, TABLE, (0, 0, 0), 0, 6), (0, 280, 40))
        self.assertEqual(course(LOG, TABLE, (0, 0, 0), 0, 9), (0, 280, 40))
        self.assertEqual(course(LOG, TABLE, (0, 0, 0), 0, 10), (0, 250, 70))
        self.assertEqual(course(LOG, TABLE, (0, 0, 0), 0, 11), (-30, 220, 100))

    def test_first_and_last_alike(self):
        for minute in (0, 2, 5, 99999, FAR):
            told = course(LOG, TABLE, (3, 4, 5), minute, minute)
            self.assertEqual(told, (3, 4, 5))
            self.assertIs(type(told), tuple)

    def test_from_any_minute_on(self):
        for first in range(0, 12):
            for last in range(first, 14):
                for d in (-3, 0, 2, 9):
                    self.assertEqual(course(LOG, TABLE, (1, 2, 3), first, last, d),
                                     by_minutes(LOG, TABLE, (1, 2, 3), first, last, d, 45))

    def test_with_a_difference(self):
        later = tuple((minute + 1440, line, what) for minute, line, what in LOG)
        for last in range(0, 13):
            wanted = course(LOG, TABLE, (0, 0, 0), 0, last)
            self.assertEqual(course(later, TABLE, (0, 0, 0), 0, last, 1440), wanted)
            self.assertEqual(course(LOG, TABLE, (0, 0, 0), 1440, 1440 + last, -1440), wanted)
        self.assertEqual(course(LOG, TABLE, (0, 0, 0), 0, 1442, -1440), (0, 0, 0))
        self.assertEqual(course(LOG, TABLE, (0, 0, 0), 0, 1443, -1440), (0, 80, 0))
        self.assertEqual(course(LOG, TABLE, (0, 0, 0), 0, 1, 1440), (0, -30, 30))

    def test_no_rows(self):
        for last in (0, 7, FAR):
            for d in (-1440, 0, 1440):
                self.assertEqual(course((), TABLE, (7, 8, 9), 0, last, d), (7, 8, 9))

    def test_none_stands_is_not_a_stop(self):
        self.assertEqual(course(((5, "port", 0),), (9,) * 9, (0, 0, 0), 0, 5), (0, 0, 0))
        self.assertEqual(course(((5, "port", 0),), (9,) * 9, (0, 0, 0), 0, 6), (0, 9, 9))
        self.assertEqual(course(((5, "star", 0),), (9,) * 9, (0, 0, 0), 0, 6), (0, 9, -9))

    def test_on_bells_alone(self):
        log = ((0, "aport", 4), (0, "astar", 4), (0, "up", "a"), (0, "down", "a"))
        self.assertEqual(course(log, TABLE, (1, 2, 3), 0, 100), (1, 2, 3))

    def test_forty_rows_and_several_in_one_minute(self):
        log = tuple((3 * (number // 2), ("port", "star")[number % 2], number % 9 - 4) for number in range(40))
        for step in (1, 45, 60):
            self.assertEqual(course(log, TABLE, (0, 0, -7), 1, 100, 3, step),
                             by_minutes(log, TABLE, (0, 0, -7), 1, 100, 3, step))

    def test_minutes_of_thirty_figures(self):
        log = ((10, "port", 1), (10, "star", 1))
        self.assertEqual(course(log, TABLE, (0, 0, 0), 0, FAR), (0, 80 * (FAR - 10), 0))
        self.assertEqual(course(log, TABLE, (0, 0, 45), FAR - 5, FAR), (400, 400, 45))
        self.assertEqual(course(log, TABLE, (FAR, -FAR, 0), 0, FAR, 1440), (FAR, -FAR + 80 * FAR, 0))
        # A round of headings is nine minutes for her that turns by 40 a minute: each once, but the second one twice.
        log = ((10, "port", 1),)
        rounds = 10 ** 28
        there = (5 + 40 * rounds, 6 + 40 * rounds, 7 + 360 * rounds)
        self.assertEqual(course(log, TABLE, (5, 6, 7), 0, 10 + 9 * rounds), there)
        self.assertEqual(course(log, TABLE, (5, 6, 7), 0, 11 + 9 * rounds), (there[0], there[1] + 40, there[2] + 40))

    def test_forty_rows_far_and_wide_in_ordinary_time(self):
        log = tuple((2500 * number, ("port", "star")[number % 2], number % 9 - 4) for number in range(40))
        for step in (1, 45, 59, 60):
            there = course(log, TABLE, (FAR, FAR, -FAR), 0, FAR, 7, step)
            half = course(log, TABLE, (FAR, FAR, -FAR), 0, 50000, 7, step)
            self.assertEqual(course(log, TABLE, half, 50000, FAR, 7, step), there)

    def test_minute_by_minute(self):
        for chance in chances(150, 121):
            log = random_log(chance, ("port", "star", "aport", "astar"), 12, 300, [-4, -1, 0, 1, 4])
            table = tuple(chance.randint(-999, 999) for _ in range(9))
            ship = tuple(chance.randint(-999, 999) for _ in range(3))
            first, d, step = chance.randint(0, 200), chance.randint(-150, 150), chance.choice([1, 9, 45, 60])
            last = first + chance.randint(0, 400)
            self.assertEqual(course(log, table, ship, first, last, d, step),
                             by_minutes(log, table, ship, first, last, d, step))

    def test_left_out_and_by_name(self):
        self.assertEqual(course(LOG, TABLE, (0, 0, 0), 0, 3), (0, 80, 0))
        self.assertEqual(course(LOG, TABLE, (0, 0, 0), 0, 3, 1), (0, 160, 0))
        self.assertEqual(course(LOG, TABLE, (0, 0, 44), 0, 3, step=44), (80, 80, 44))
        self.assertEqual(course(LOG, TABLE, (0, 0, 44), 0, 3, step=45), (0, 80, 44))
        for told in each_way(course, [LOG, TABLE, (0, 0, 44), 0, 3, 1, 44], NAMES):
            self.assertEqual(told, (160, 160, 44))


if __name__ == "__main__":
    unittest.main()
