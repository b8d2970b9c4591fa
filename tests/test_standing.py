"""The order that stands on a bell, and its steps (6; 3 as far as it speaks of them)."""

import unittest

from ringorders.standing import standing, steps
from tests.helper import chances, each_way, random_log

LOG = ((0, "port", 2), (3, "star", 4), (3, "port", 0), (3, "aport", -1), (5, "down", "a"), (7, "port", -3),
       (7, "port", 1), (9, "port", 1), (12, "port", -4), (12, "port", 1), (12, "star", -4), (99999, "port", 0))


def stands(log, line, minute):
    """What stands, by the document's words: the rows looked through from the last one back."""
    for when, where, what in reversed(log):
        if where == line and not when > minute:
            return what
    return None


class Standing(unittest.TestCase):
    def test_ordinary(self):
        wanted = {0: 2, 1: 2, 2: 2, 3: 0, 4: 0, 6: 0, 7: 1, 8: 1, 9: 1, 11: 1, 12: 1, 99998: 1, 99999: 0, 100000: 0}
        for minute, order in wanted.items():
            self.assertEqual(standing(LOG, "port", minute), order, minute)
        self.assertEqual(standing(LOG, "star", 11), 4)
        self.assertEqual(standing(LOG, "star", 12), -4)

    def test_none_stands(self):
        self.assertIsNone(standing(LOG, "star", 2))
        self.assertIsNone(standing((), "port", 5))
        self.assertIsNone(standing(LOG, "port", -1))
        self.assertIsNone(standing(((5, "aport", 1), (5, "star", 1), (6, "down", "port")), "port", 9))

    def test_what_is_handed_in_as_none(self):
        for none in (None, 0, -7, 99, "none", False, (), 10 ** 29):
            self.assertIs(standing((), "port", 5, none), none)
            self.assertIs(standing(LOG, "star", 2, none=none), none)
            self.assertEqual(standing(LOG, "star", 3, none), 4)

    def test_stop_stands_as_an_order(self):
        told = standing(LOG, "port", 4, none=9)
        self.assertEqual(told, 0)
        self.assertIs(type(told), int)

    def test_any_whole_number_as_the_minute(self):
        self.assertEqual(standing(LOG, "port", 10 ** 29), 0)
        self.assertEqual(standing(LOG, "star", 10 ** 30 - 1), -4)
        self.assertIsNone(standing(LOG, "port", -(10 ** 29)))
        self.assertEqual(standing(LOG, "port", -(10 ** 29), 3), 3)

    def test_several_rows_of_one_minute(self):
        log = tuple((5, "star", order) for order in (1, 2, 3, -1, 0, 4))
        self.assertEqual(standing(log, "star", 5), 4)
        self.assertIsNone(standing(log, "star", 4))

    def test_forty_rows(self):
        log = tuple((number, "port", number % 9 - 4) for number in range(40))
        self.assertEqual([standing(log, "port", minute) for minute in range(40)], [row[2] for row in log])

    def test_by_name(self):
        for told in each_way(standing, [LOG, "star", 2, 8], ["log", "line", "minute", "none"]):
            self.assertEqual(told, 8)
        self.assertEqual(standing(log=LOG, line="port", minute=3), 0)

    def test_by_chance(self):
        for chance in chances(200):
            log = random_log(chance, ("port", "star", "aport", "up"), 12, 10)
            for minute in range(-2, 13):
                for line in ("port", "star"):
                    self.assertEqual(standing(log, line, minute), stands(log, line, minute))


class Steps(unittest.TestCase):
    def test_ordinary(self):
        self.assertEqual(steps(LOG, "port"), [(0, 2), (3, 0), (7, 1), (99999, 0)])
        self.assertEqual(steps(LOG, "star"), [(3, 4), (12, -4)])

    def test_no_rows(self):
        self.assertEqual(steps((), "port"), [])
        self.assertEqual(steps(((5, "aport", 1), (6, "down", "a")), "port"), [])

    def test_the_first_row_is_a_step_though_it_is_stop(self):
        self.assertEqual(steps(((0, "port", 0),), "port"), [(0, 0)])
        self.assertEqual(steps(((4, "star", 0), (5, "star", 0)), "star"), [(4, 0)])

    def test_the_same_order_again_is_none(self):
        self.assertEqual(steps(((1, "port", 2), (2, "port", 2), (3, "port", -2), (4, "port", 2)), "port"),
                         [(1, 2), (3, -2), (4, 2)])

    def test_several_rows_of_one_minute_are_one_step_at_most(self):
        self.assertEqual(steps(((1, "port", 2), (5, "port", 3), (5, "port", 2)), "port"), [(1, 2)])
        self.assertEqual(steps(((5, "port", 3), (5, "port", 2), (5, "port", 3), (6, "port", 3)), "port"), [(5, 3)])
        self.assertEqual(steps(((1, "port", 2), (5, "port", 2), (5, "port", 3)), "port"), [(1, 2), (5, 3)])

    def test_forty_rows(self):
        log = tuple((2 * number, "port", number % 2) for number in range(40))
        self.assertEqual(steps(log, "port"), [(2 * number, number % 2) for number in range(40)])

    def test_kinds(self):
        told = steps(LOG, "port")
        self.assertIs(type(told), list)
        self.assertTrue(all(type(step) is tuple for step in told))

    def test_by_name(self):
        for told in each_way(steps, [LOG, "star"], ["log", "line"]):
            self.assertEqual(told, [(3, 4), (12, -4)])

    def test_what_is_told_is_the_askers_own(self):
        told = steps(LOG, "star")
        told.append((0, 0))
        told[0] = None
        self.assertEqual(steps(LOG, "star"), [(3, 4), (12, -4)])

    def test_by_chance(self):
        for chance in chances(200, 2):
            log = random_log(chance, ("port", "star", "aport"), 12, 10)
            wanted = []
            for minute in range(11):
                now = stands(log, "port", minute)
                if now is not None and now != stands(log, "port", minute - 1):
                    wanted.append((minute, now))
            self.assertEqual(steps(log, "port"), wanted)


if __name__ == "__main__":
    unittest.main()
