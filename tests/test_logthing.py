"""Logs as objects (32; 2 and 3 as far as they speak of them)."""

import copy
import unittest

from ringorders.errors import Full, NoLog, NoRow
from ringorders.logs import is_log, log_of
from ringorders.logthing import Log
from ringorders.reader import read_log
from ringorders.texts import show_log
from tests.helper import LINES, alike, chances, odd_things, otherwise, random_log
from tests.watches import NO_ROWS

ROWS = ((3, "port", 1), (5, "aport", 1), (5, "up", "ja"), (9, "port", 0))
FORTY = ((7, "star", 2),) * 40


class Making(unittest.TestCase):
    def test_of_lists_and_tuples(self):
        for rows in (ROWS, list(ROWS), [list(row) for row in ROWS], tuple(list(row) for row in ROWS)):
            self.assertTrue(alike(Log(rows).rows(), ROWS))
        for rows in ((), []):
            self.assertTrue(alike(Log(rows).rows(), ()))
        self.assertEqual(Log(rows=FORTY).rows(), FORTY)

    def test_it_is_its_own(self):
        rows = [list(row) for row in ROWS]
        log = Log(rows)
        rows[0][0] = 99
        rows.pop()
        self.assertEqual(log.rows(), ROWS)
        self.assertTrue(is_log(log.rows()))

    def test_no_log_of_whatever_it_is(self):
        for thing in odd_things() + [FORTY + FORTY[:1], ROWS[::-1], ROWS + (None,), list(ROWS) + [(10, "port", True)],
                                     {0: ROWS[0]}, "07:05 port stop\n", Log(ROWS), [Log(ROWS)], (100000, "port", 1)]:
            if isinstance(thing, (list, tuple)) and not thing:
                continue
            with self.assertRaises(NoLog, msg=thing) as caught:
                Log(thing)
            with self.assertRaises(NoLog) as wanted:
                log_of(thing)
            self.assertTrue(alike(caught.exception.at, wanted.exception.at))

    def test_one_thing_otherwise(self):
        for thing in otherwise(ROWS):
            try:
                wanted = log_of(thing)
            except NoLog as refusal:
                with self.assertRaises(NoLog, msg=thing) as caught:
                    Log(thing)
                self.assertEqual(caught.exception.at, refusal.at)
            else:
                self.assertTrue(alike(Log(thing).rows(), wanted))


class Likeness(unittest.TestCase):
    def test_length_and_truth(self):
        for rows in ((), ROWS[:1], ROWS, FORTY):
            self.assertEqual((len(Log(rows)), bool(Log(rows))), (len(rows), len(rows) > 0))

    def test_like_each_with_the_same_rows(self):
        self.assertTrue(Log(ROWS) == Log([list(row) for row in ROWS]))
        self.assertFalse(Log(ROWS) != Log(list(ROWS)))
        self.assertTrue(Log(()) == Log([]))
        for rows in (ROWS[:-1], ROWS[:3] + ((9, "port", 1),), (ROWS[0], ROWS[2], ROWS[1], ROWS[3]), (), FORTY):
            self.assertFalse(Log(ROWS) == Log(rows))
            self.assertTrue(Log(ROWS) != Log(rows))

    def test_like_nothing_else(self):
        for thing in odd_things() + [ROWS, list(ROWS), show_log(ROWS), 4, ""]:
            for log in (Log(()), Log(ROWS)):
                self.assertFalse(log == thing)
                self.assertTrue(log != thing)
                self.assertFalse(thing == log)

    def test_texts(self):
        self.assertEqual(str(Log(())), "")
        self.assertEqual(str(Log(ROWS)), "00:03 port +dead\n00:05 aport +dead\n00:05 up ja\n00:09 port stop\n")
        for rows, text in (((), "Log(0)"), (ROWS[:1], "Log(1)"), (ROWS, "Log(4)"), (FORTY, "Log(40)")):
            self.assertEqual(repr(Log(rows)), text)
            self.assertTrue(Log(read_log(str(Log(rows)))) == Log(rows))


class WithRow(unittest.TestCase):
    def test_behind_all_whose_minute_is_not_greater(self):
        for minute, at in ((0, 0), (2, 0), (3, 1), (4, 1), (5, 3), (8, 3), (9, 4), (10, 4), (99999, 4)):
            log = Log(ROWS)
            told = log.with_row((minute, "down", "neu"))
            self.assertIs(type(told), Log)
            self.assertTrue(alike(told.rows(), ROWS[:at] + ((minute, "down", "neu"),) + ROWS[at:]))
            self.assertEqual(log.rows(), ROWS)
        self.assertEqual(Log(()).with_row(row=[5, "port", 1]).rows(), ((5, "port", 1),))

    def test_behind_all_of_its_minute(self):
        log = Log(((5, "port", 1),) * 5 + ((6, "port", 1),))
        self.assertEqual(log.with_row((5, "port", 2)).rows(), ((5, "port", 1),) * 5 + ((5, "port", 2), (6, "port", 1)))

    def test_forty_rows_and_one_more(self):
        log = Log(FORTY[:39])
        full = log.with_row((7, "star", 2))
        self.assertEqual(full.rows(), FORTY)
        for row in ((7, "star", 2), (0, "up", "a"), [99999, "port", -4]):
            with self.assertRaises(Full):
                full.with_row(row)
        self.assertEqual((len(log), len(full)), (39, 40))

    def test_no_row_of_whatever_it_is(self):
        for log in (Log(()), Log(ROWS), Log(FORTY)):
            kept = log.rows()
            for thing in NO_ROWS + [ROWS, [ROWS[0]], (3, "port", 1, 1), Log(ROWS[:1]), "00:03 port +dead"]:
                with self.assertRaises(NoRow, msg=thing):
                    log.with_row(thing)
            self.assertEqual(log.rows(), kept)

    def test_it_is_copied(self):
        row = [4, "port", 1]
        log = Log(ROWS).with_row(row)
        row[0] = 77
        self.assertEqual(log.rows()[1], (4, "port", 1))


class Later(unittest.TestCase):
    def test_ordinary(self):
        log = Log(ROWS)
        for many in (-3, -1, 0, 1, 60, 99990):
            told = log.later(many)
            self.assertIs(type(told), Log)
            self.assertEqual(told.rows(), tuple((minute + many, line, what) for minute, line, what in ROWS))
        self.assertEqual(log.rows(), ROWS)
        self.assertTrue(log.later(many=7).later(-7) == log)

    def test_no_minute_any_more(self):
        for many in (-4, -5, -10, 99991, 10 ** 5, 10 ** 29, -(10 ** 29), 10 ** 99):
            log = Log(ROWS)
            with self.assertRaises(NoLog) as caught:
                log.later(many)
            self.assertIsNone(caught.exception.at)
            self.assertEqual(log.rows(), ROWS)

    def test_no_rows(self):
        for many in (0, 5, -5, 10 ** 29, -(10 ** 29)):
            self.assertEqual(Log(()).later(many).rows(), ())

    def test_by_chance(self):
        for chance in chances(50, 321):
            rows = random_log(chance, LINES, 39, 300)
            log, many = Log(rows), chance.randint(0, 99)
            row = (chance.randint(0, 300), "up", "neu")
            later = log.later(many).with_row((row[0] + many, *row[1:]))
            self.assertEqual(log.with_row(row).later(many).rows(), later.rows())
            wanted = sorted(list(rows) + [row], key=lambda each: each[0])
            self.assertEqual(log.with_row(row).rows(), tuple(wanted))
            self.assertEqual(copy.deepcopy(rows), rows)


if __name__ == "__main__":
    unittest.main()
