"""Clashes and their reasons (10)."""

import unittest

from ringorders.clashes import clash
from tests.helper import LINES, chances, clash_by_words, each_way, pairs_by_words, random_log

# Three rings alike, and a word up; by the room's clock the rings are 4, 5 and 9 minutes later, the word 2 earlier.
BRIDGE = ((0, "port", 1), (10, "port", 1), (20, "port", 1), (30, "up", "a"), (40, "star", 1))
ROOM = ((4, "port", 1), (15, "port", 1), (28, "up", "a"), (29, "port", 1), (44, "star", 1))


class Clash(unittest.TestCase):
    def test_row(self):
        self.assertEqual(clash(BRIDGE, ROOM, (0, 0), (0, 1), 60, -60, 60), "row")
        self.assertEqual(clash(BRIDGE, ROOM, (0, 0), (1, 0), 60, -60, 60), "row")

    def test_order(self):
        self.assertEqual(clash(BRIDGE, ROOM, (0, 1), (1, 0), 60, -60, 60), "order")
        self.assertEqual(clash(BRIDGE, ROOM, (1, 0), (0, 1), 60, -60, 60), "order")
        self.assertEqual(clash(BRIDGE, ROOM, (0, 3), (2, 0), 60, -60, 60), "order")

    def test_clocks(self):
        self.assertEqual(clash(BRIDGE, ROOM, (0, 0), (1, 1), 0, -60, 60), "clocks")
        self.assertIsNone(clash(BRIDGE, ROOM, (0, 0), (1, 1), 1, -60, 60))
        self.assertEqual(clash(BRIDGE, ROOM, (0, 0), (2, 3), 4, -60, 60), "clocks")
        self.assertIsNone(clash(BRIDGE, ROOM, (0, 0), (2, 3), 5, -60, 60))
        self.assertIsNone(clash(BRIDGE, ROOM, (0, 0), (4, 4), 0, -60, 60))

    def test_the_first_reason_that_holds(self):
        # A row in common, and no difference that fits both.
        self.assertEqual(clash(BRIDGE, ROOM, (0, 0), (0, 3), 0, 0, 0), "row")
        # Out of order, and no difference that fits both.
        self.assertEqual(clash(BRIDGE, ROOM, (0, 3), (2, 0), 0, 0, 0), "order")

    def test_of_two_lines_the_order_is_free(self):
        bridge = ((0, "port", 1), (0, "star", 1), (0, "up", "a"))
        room = ((0, "up", "a"), (0, "star", 1), (0, "port", 1))
        self.assertIsNone(clash(bridge, room, (0, 2), (1, 1)))
        self.assertIsNone(clash(bridge, room, (0, 2), (2, 0)))

    def test_of_one_minute_the_order_is_that_of_the_numbers(self):
        log = ((5, "port", 1), (5, "port", 1))
        self.assertEqual(clash(log, log, (0, 1), (1, 0)), "order")
        self.assertIsNone(clash(log, log, (0, 0), (1, 1)))

    def test_a_pair_and_itself(self):
        for pair in ((0, 0), (3, 2), (0, 3)):
            self.assertIsNone(clash(BRIDGE, ROOM, pair, pair))
            self.assertIsNone(clash(BRIDGE, ROOM, pair, (pair[0], pair[1]), 0, 1440, 1440))

    def test_one_that_fits_none_of_the_stretch(self):
        self.assertEqual(clash(BRIDGE, ROOM, (0, 0), (4, 4), 0, 5, 60), "clocks")
        self.assertEqual(clash(BRIDGE, ROOM, (0, 0), (4, 4), 0, -60, 3), "clocks")
        self.assertEqual(clash(BRIDGE, ROOM, (0, 0), (2, 3), 5, -60, 3), "clocks")
        self.assertEqual(clash(BRIDGE, ROOM, (2, 3), (0, 0), 5, -60, 3), "clocks")
        self.assertEqual(clash(BRIDGE, ROOM, (0, 0), (2, 3), 5, 5, 60), "clocks")

    def test_a_stretch_of_one_difference(self):
        self.assertIsNone(clash(BRIDGE, ROOM, (0, 0), (2, 3), 5, 4, 4))
        self.assertEqual(clash(BRIDGE, ROOM, (0, 0), (2, 3), 5, 3, 3), "clocks")
        self.assertEqual(clash(BRIDGE, ROOM, (0, 0), (2, 3), 5, 5, 5), "clocks")
        self.assertIsNone(clash(BRIDGE, ROOM, (0, 0), (4, 4), 0, 4, 4))

    def test_each_fits_a_part_of_the_stretch_but_no_difference_both(self):
        # The spans are (2, 4) and (7, 9); each alone meets the stretch.
        self.assertEqual(clash(BRIDGE, ROOM, (0, 0), (2, 3), 2, 4, 7), "clocks")
        self.assertEqual(clash(BRIDGE, ROOM, (2, 3), (0, 0), 2, -1440, 1440), "clocks")

    def test_of_a_ring_and_a_word_up(self):
        # The ring fits from 4 - lag to 4, the word from -2 to -2 + lag.
        self.assertEqual(clash(BRIDGE, ROOM, (0, 0), (3, 2), 2, -60, 60), "clocks")
        self.assertIsNone(clash(BRIDGE, ROOM, (0, 0), (3, 2), 3, -60, 60))
        self.assertIsNone(clash(BRIDGE, ROOM, (3, 2), (0, 0), 3, 1, 1))
        self.assertEqual(clash(BRIDGE, ROOM, (3, 2), (0, 0), 3, 2, 60), "clocks")
        self.assertEqual(clash(BRIDGE, ROOM, (3, 2), (0, 0), 3, -60, 0), "clocks")

    def test_differences_of_a_day(self):
        one, other = ((0, "port", 1), (0, "up", "a")), ((1440, "port", 1), (1440, "up", "a"))
        self.assertIsNone(clash(one, other, (0, 0), (1, 1), 0, 1440, 1440))
        self.assertIsNone(clash(one, other, (0, 0), (1, 1), 0, -1440, 1440))
        self.assertEqual(clash(one, other, (0, 0), (1, 1), 0, -1440, 1439), "clocks")
        self.assertIsNone(clash(other, one, (0, 0), (1, 1), 0, -1440, 1440))
        self.assertEqual(clash(other, one, (0, 0), (1, 1), 60, -1439, 1440), "clocks")

    def test_left_out_and_by_name(self):
        self.assertEqual(clash(BRIDGE, ROOM, (0, 0), (4, 4)), "clocks")
        self.assertIsNone(clash(BRIDGE, ROOM, (0, 0), (4, 4), lag=4))
        self.assertIsNone(clash(BRIDGE, ROOM, (0, 0), (4, 4), high=4))
        self.assertEqual(clash(BRIDGE, ROOM, (0, 0), (4, 4), low=-4), "clocks")
        names = ["bridge", "room", "one", "other", "lag", "low", "high"]
        for told in each_way(clash, [BRIDGE, ROOM, (0, 0), (2, 3), 2, 4, 7], names):
            self.assertEqual(told, "clocks")

    def test_by_chance(self):
        reasons = set()
        for chance in chances(150, 8):
            bridge = random_log(chance, LINES[:3] + ("up", "up"), 6, 10, [1])
            room = random_log(chance, LINES[:3] + ("up", "up"), 6, 10, [1])
            lag, low = chance.randint(0, 4), chance.randint(-8, 4)
            high = low + chance.randint(0, 6)
            pairs = pairs_by_words(bridge, room)
            for one in pairs:
                for other in pairs:
                    wanted = clash_by_words(bridge, room, one, other, lag, low, high)
                    reasons.add(wanted)
                    self.assertEqual(clash(bridge, room, one, other, lag, low, high), wanted)
        self.assertEqual(reasons, {None, "row", "order", "clocks"})


if __name__ == "__main__":
    unittest.main()
