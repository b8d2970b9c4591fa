"""Logs, how one is made and refused, and which of its rows are told (5)."""

import copy
import unittest

from ringorders.errors import NoLog
from ringorders.logs import is_log, log_of, rows_between, rows_on
from tests.helper import LINES, chances, each_way, odd_things, random_log

LOG = ((0, "port", 2), (3, "down", "dora"), (3, "aport", 2), (3, "port", 0), (9, "astar", -4), (12, "up", "a"),
       (12, "port", 4), (99999, "star", 0))
FORTY = tuple((number, "port", 0) for number in range(40))
FORTY_ONE = FORTY + ((40, "port", 0),)


def refused_at(thing):
    """The field at of the refusal of a thing; where it isn't refused, a word."""
    try:
        log_of(thing)
    except NoLog as refusal:
        return refusal.at
    return "taken"


# Things with the number of the first row that is wrong.
WRONG_AT = [
    ([None], 0), ([True], 0), ([0], 0), (["port"], 0), ([()], 0), ([[]], 0), ([{}], 0), ([[LOG[0]]], 0), ("abc", None),
    ([(0, "port", 0), (1, "port", True)], 1), ([(0, "port", 0), (True, "port", 0)], 1),
    ([(0, "port", 0), (1, "port", 0, 0)], 1), ([(0, "port", 0), (1, "port")], 1),
    ([(0, "port", 0), {0: 1, 1: "port", 2: 0}], 1), ([(0, "port", 0), [1, "up", 0], None], 1),
    ([(5, "port", 0), (4, "port", 0)], 1), ([(5, "port", 0), (5, "star", 0), (4, "up", "a")], 2),
    ([(5, "port", 0), (6, "star", 0), (5, "up", "a")], 2), ([(99999, "port", 0), (0, "port", 0)], 1),
    ([(5, "port", 0), (4, "port", 0), (3, "port", 0)], 1), ([(5, "port", 0), (4, "port", 0), (6, "port", 9)], 1),
    ([(5, "port", 9), (4, "port", 0)], 0), ([(5, "port", 0), (6, "port", 9), (4, "port", 0)], 1),
    ([(5, "port", 0), (100000, "port", 0)], 1), ([(5, "port", 0), (10 ** 99, "port", 0)], 1),
    ([(5, "port", 0), (7, ["port"], 0), (6, "port", 0)], 1),
    (FORTY_ONE, 40), (FORTY_ONE * 2, 40), (FORTY + (None,), 40), (FORTY + (None, None), 40),
    (FORTY[:39] + (None, None), 39), (FORTY[:39] + ((37, "port", 0), (40, "port", 0)), 39),
    ((None,) + FORTY, 0), (FORTY_ONE[:20] + ((0, "port", 0),) + FORTY_ONE[21:], 20),
]


class IsLog(unittest.TestCase):
    def test_logs(self):
        for log in ((), LOG, LOG[:1], FORTY, FORTY[:39], ((7, "port", 0),) * 40, ((0, "up", "a"),),
                    ((5, "port", 0), (5, "port", 0), (6, "port", 0))):
            self.assertIs(is_log(log), True, log)

    def test_forty_one_rows(self):
        self.assertIs(is_log(FORTY_ONE), False)
        self.assertIs(is_log(((7, "port", 0),) * 41), False)
        self.assertIs(is_log(((7, "port", 0),) * 1000), False)

    def test_a_list_is_none(self):
        for log in ((), LOG, FORTY):
            self.assertIs(is_log(list(log)), False)

    def test_a_list_within_is_none(self):
        for number in range(len(LOG)):
            thing = LOG[:number] + (list(LOG[number]),) + LOG[number + 1:]
            self.assertIs(is_log(thing), False)

    def test_none(self):
        for thing, _ in WRONG_AT:
            self.assertIs(is_log(thing), False, thing)
            self.assertIs(is_log(tuple(thing)), False, thing)

    def test_a_row_is_none(self):
        self.assertIs(is_log((5, "port", 0)), False)

    def test_whatever_it_is(self):
        for thing in odd_things():
            # Only the tuple without anything in it is a log.
            self.assertIs(is_log(thing), thing == (), thing)

    def test_by_name(self):
        self.assertIs(is_log(thing=LOG), True)


class LogOf(unittest.TestCase):
    def test_lists_and_tuples(self):
        for log in ((), LOG, LOG[:1], FORTY, ((7, "port", 0),) * 40):
            for thing in (log, list(log), [list(row) for row in log], tuple(list(row) for row in log)):
                told = log_of(thing)
                self.assertEqual(told, log)
                self.assertIs(type(told), tuple)
                self.assertTrue(all(type(row) is tuple for row in told))
                self.assertIs(is_log(told), True)

    def test_refused_at(self):
        for thing, at in WRONG_AT:
            self.assertEqual(refused_at(thing), at, thing)
            if isinstance(thing, (list, tuple)):
                lists = [list(row) if isinstance(row, tuple) else row for row in thing]
                self.assertEqual(refused_at(lists), at, thing)
                self.assertEqual(refused_at(tuple(lists)), at, thing)

    def test_what_is_no_list_or_tuple(self):
        for thing in (None, True, False, 0, 5, 10 ** 99, "", "abc", {}, {0: (5, "port", 0)}, {"a": []}):
            self.assertIsNone(refused_at(thing))

    def test_whatever_it_is(self):
        for thing in odd_things():
            if isinstance(thing, (list, tuple)):
                self.assertEqual(refused_at(thing), 0 if thing else "taken", thing)
            else:
                self.assertIsNone(refused_at(thing), thing)

    def test_a_minute_as_the_one_ahead(self):
        log = ((5, "port", 0), (5, "port", 0), (5, "star", 1))
        self.assertEqual(log_of(list(log)), log)

    def test_a_minute_one_less_than_the_one_ahead(self):
        for minute in (1, 2, 60, 99999):
            self.assertEqual(refused_at([(minute, "port", 0), (minute - 1, "port", 0)]), 1)

    def test_by_name(self):
        self.assertEqual(log_of(rows=[[5, "port", 0]]), ((5, "port", 0),))

    def test_what_is_handed_in_is_copied(self):
        thing = [[5, "port", 2], [6, "up", "a"]]
        told = log_of(thing)
        self.assertEqual(thing, [[5, "port", 2], [6, "up", "a"]])
        thing[0][0] = 0
        thing.append([7, "up", "b"])
        self.assertEqual(told, ((5, "port", 2), (6, "up", "a")))
        self.assertEqual(log_of(thing), ((0, "port", 2), (6, "up", "a"), (7, "up", "b")))

    def test_nothing_is_changed(self):
        for thing in [thing for thing, _ in WRONG_AT] + odd_things():
            kept = copy.deepcopy(thing)
            is_log(thing)
            refused_at(thing)
            self.assertEqual(thing, kept)


class RowsOn(unittest.TestCase):
    def test_each_line(self):
        told = {line: rows_on(LOG, line) for line in LINES}
        self.assertEqual(told, {"port": [0, 3, 6], "star": [7], "down": [1], "aport": [2], "astar": [4], "up": [5]})

    def test_no_rows(self):
        for line in LINES:
            self.assertEqual(rows_on((), line), [])
        self.assertEqual(rows_on(FORTY, "star"), [])

    def test_forty_rows(self):
        self.assertEqual(rows_on(FORTY, "port"), list(range(40)))

    def test_by_name(self):
        for told in each_way(rows_on, [LOG, "port"], ["log", "line"]):
            self.assertEqual(told, [0, 3, 6])

    def test_what_is_told_is_the_askers_own(self):
        rows_on(LOG, "port").append(99)
        self.assertEqual(rows_on(LOG, "port"), [0, 3, 6])
        self.assertIs(type(rows_on(LOG, "port")), list)


class RowsBetween(unittest.TestCase):
    def test_both_minutes_are_in(self):
        self.assertEqual(rows_between(LOG, 3, 12), [1, 2, 3, 4, 5, 6])
        self.assertEqual(rows_between(LOG, 4, 11), [4])
        self.assertEqual(rows_between(LOG, 3, 3), [1, 2, 3])
        self.assertEqual(rows_between(LOG, 0, 0), [0])
        self.assertEqual(rows_between(LOG, 99999, 99999), [7])
        self.assertEqual(rows_between(LOG, 4, 8), [])
        self.assertEqual(rows_between(LOG, 1, 99998), [1, 2, 3, 4, 5, 6])

    def test_left_out(self):
        self.assertEqual(rows_between(LOG), list(range(8)))
        self.assertEqual(rows_between(LOG, 9), [4, 5, 6, 7])
        self.assertEqual(rows_between(LOG, last=9), [0, 1, 2, 3, 4])
        self.assertEqual(rows_between(LOG, first=9), [4, 5, 6, 7])
        self.assertEqual(rows_between(()), [])

    def test_any_whole_numbers(self):
        self.assertEqual(rows_between(LOG, 12, 3), [])
        self.assertEqual(rows_between(LOG, -5, -1), [])
        self.assertEqual(rows_between(LOG, -(10 ** 29), 10 ** 29), list(range(8)))
        self.assertEqual(rows_between(LOG, 10 ** 29, 10 ** 30 - 1), [])
        self.assertEqual(rows_between(LOG, 10 ** 29, -(10 ** 29)), [])
        self.assertEqual(rows_between(LOG, 100000, 100001), [])

    def test_by_name(self):
        for told in each_way(rows_between, [LOG, 3, 9], ["log", "first", "last"]):
            self.assertEqual(told, [1, 2, 3, 4])

    def test_what_is_told_is_the_askers_own(self):
        rows_between(LOG).clear()
        self.assertEqual(rows_between(LOG), list(range(8)))
        self.assertIs(type(rows_between(LOG)), list)

    def test_by_chance(self):
        for chance in chances(100):
            log = random_log(chance, LINES, 40, 60)
            first, last = chance.randint(-5, 65), chance.randint(-5, 65)
            wanted = [number for number in range(len(log)) if log[number][0] in range(first, last + 1)]
            self.assertEqual(rows_between(log, first, last), wanted)
            kept = {number for line in LINES for number in rows_on(log, line)}
            self.assertEqual(kept, set(range(len(log))))


if __name__ == "__main__":
    unittest.main()
