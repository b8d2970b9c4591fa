"""Tables, and the turns that an engine makes by a log (20; 2 and 3 as far as they speak of them)."""

import copy
import unittest

from ringorders.turns import is_table, turns
from tests.helper import alike, chances, each_way, odd_things, otherwise, random_log

TABLE = (-90, -70, -50, -30, 0, 40, 60, 80, 100)
LOG = ((3, "port", 2), (5, "star", -1), (5, "aport", 2), (8, "port", 2), (8, "port", 0), (8, "port", 4), (20, "port", -4))
FAR = 10 ** 30 - 1
NAMES = ["log", "engine", "table", "first", "last", "idle"]


def turns_by_words(log, engine, table, first, last, idle):
    """The turns, added up minute by minute."""
    total = 0
    for minute in range(first, last):
        rung = [what for when, line, what in log if line == engine and when <= minute]
        total += table[rung[-1] + 4] if rung else idle
    return total


class IsTable(unittest.TestCase):
    def test_tables(self):
        for thing in (TABLE, (0,) * 9, (999,) * 9, (-999,) * 9, tuple(range(9)), (-999, 999) * 4 + (0,)):
            self.assertIs(is_table(thing), True, thing)

    def test_bounds(self):
        for at in range(9):
            for number, wanted in ((-999, True), (999, True), (-1000, False), (1000, False), (10 ** 99, False),
                                   (-(10 ** 99), False)):
                self.assertIs(is_table(TABLE[:at] + (number,) + TABLE[at + 1:]), wanted)

    def test_nine_of_them(self):
        for many in (0, 1, 8, 10, 18, 990):
            self.assertIs(is_table((0,) * many), False)

    def test_whatever_it_is(self):
        for thing in odd_things():
            self.assertIs(is_table(thing), False, thing)
            for at in range(9):
                other = TABLE[:at] + (thing,) + TABLE[at + 1:]
                wanted = type(thing) is int and -999 <= thing <= 999
                self.assertIs(is_table(other), wanted, other)

    def test_truths_for_numbers_and_lists_for_tuples(self):
        self.assertIs(is_table(list(TABLE)), False)
        self.assertIs(is_table(dict.fromkeys(range(9), 0)), False)
        self.assertIs(is_table("000000000"), False)
        for at in range(9):
            for truth in (True, False):
                self.assertIs(is_table((0,) * at + (truth,) + (0,) * (8 - at)), False)

    def test_one_thing_otherwise(self):
        for thing in otherwise(TABLE):
            wanted = type(thing) is tuple and len(thing) == 9 and all(
                type(turned) is int and -999 <= turned <= 999 for turned in thing)
            self.assertIs(is_table(thing), wanted, thing)

    def test_by_name(self):
        self.assertIs(is_table(thing=TABLE), True)
        self.assertIs(is_table(thing=None), False)

    def test_nothing_is_changed(self):
        for thing in odd_things() + [TABLE, list(TABLE)]:
            kept = copy.deepcopy(thing)
            is_table(thing)
            self.assertTrue(alike(thing, kept))


class Turns(unittest.TestCase):
    def test_ordinary(self):
        # Idle to 3, then half ahead for 5 minutes, then full ahead for 12, then full astern.
        self.assertEqual(turns(LOG, "port", TABLE, 0, 30), 5 * 60 + 12 * 100 + 10 * -90)
        self.assertEqual(turns(LOG, "star", TABLE, 0, 30), 25 * -30)

    def test_of_each_order(self):
        for order in range(-4, 5):
            self.assertEqual(turns(((7, "port", order),), "port", TABLE, 7, 10), 3 * TABLE[order + 4])
            self.assertEqual(turns(((7, "star", order),), "star", TABLE, 7, 8), TABLE[order + 4])

    def test_idle_ones(self):
        self.assertEqual(turns(LOG, "port", TABLE, 0, 3, 7), 21)
        self.assertEqual(turns(LOG, "port", TABLE, 0, 4, 7), 81)
        self.assertEqual(turns(LOG, "star", TABLE, 0, 30, -999), 5 * -999 + 25 * -30)
        self.assertEqual(turns((), "star", TABLE, 5, 30, 999), 25 * 999)
        self.assertEqual(turns((), "star", TABLE, 5, 30), 0)

    def test_a_stop_is_not_idle(self):
        self.assertEqual(turns(((0, "port", 0),), "port", (5,) * 9, 0, 10, 99), 50)
        self.assertEqual(turns(((0, "port", 0),), "star", (5,) * 9, 0, 10, 99), 990)

    def test_what_is_on_other_lines(self):
        log = ((0, "aport", 4), (0, "astar", 4), (0, "star", 4), (0, "up", "a"), (0, "down", "a"))
        self.assertEqual(turns(log, "port", TABLE, 0, 10, 1), 10)

    def test_from_first_to_below_last(self):
        for first, last, wanted in ((2, 3, 0), (3, 4, 60), (7, 8, 60), (8, 9, 100), (7, 9, 160), (19, 20, 100),
                                    (20, 21, -90), (19, 21, 10), (21, 22, -90)):
            self.assertEqual(turns(LOG, "port", TABLE, first, last), wanted)

    def test_no_minutes(self):
        for minute in (0, 3, 8, 20, 99999, FAR):
            self.assertEqual(turns(LOG, "port", TABLE, minute, minute, 999), 0)
            self.assertEqual(turns((), "port", TABLE, minute, minute, 999), 0)

    def test_several_rows_in_one_minute(self):
        self.assertEqual(turns(LOG, "port", TABLE, 8, 9), 100)

    def test_minutes_of_thirty_figures(self):
        self.assertEqual(turns(LOG, "port", TABLE, 0, FAR), 5 * 60 + 12 * 100 + (FAR - 20) * -90)
        self.assertEqual(turns(LOG, "port", TABLE, FAR - 7, FAR), 7 * -90)
        self.assertEqual(turns(LOG, "star", TABLE, 100000, FAR), (FAR - 100000) * -30)
        self.assertEqual(turns((), "star", TABLE, 0, FAR, -999), FAR * -999)

    def test_tables_at_their_bounds(self):
        for much in (-999, 999):
            self.assertEqual(turns(LOG, "port", (much,) * 9, 3, FAR), much * (FAR - 3))

    def test_forty_rows(self):
        log = tuple((3 * number, "port", number % 9 - 4) for number in range(40))
        self.assertEqual(turns(log, "port", TABLE, 0, 200), turns_by_words(log, "port", TABLE, 0, 200, 0))
        log = ((99999, "star", 1),) * 39 + ((99999, "star", 2),)
        self.assertEqual(turns(log, "star", TABLE, 99990, 100010, -1), 11 * 60 - 9)

    def test_minute_by_minute(self):
        for chance in chances(200, 101):
            log = random_log(chance, ("port", "star", "aport"), 12, 300, [-4, -2, 0, 1, 3])
            table = tuple(chance.randint(-999, 999) for _ in range(9))
            first = chance.randint(0, 300)
            last, idle = first + chance.randint(0, 300), chance.randint(-999, 999)
            for engine in ("port", "star"):
                wanted = turns_by_words(log, engine, table, first, last, idle)
                self.assertEqual(turns(log, engine, table, first, last, idle), wanted)

    def test_left_out_and_by_name(self):
        self.assertEqual(turns(LOG, "port", TABLE, 0, 4), 60)
        self.assertEqual(turns(LOG, "port", TABLE, 0, 4, idle=1), 63)
        for told in each_way(turns, [LOG, "port", TABLE, 0, 4, 1], NAMES):
            self.assertEqual(told, 63)
            self.assertIs(type(told), int)


if __name__ == "__main__":
    unittest.main()
