"""Counts of the greatest joinings over a stretch, and the best of them (13; 2 and 3 as far as they speak of them)."""

import copy
import unittest

from ringorders.counts import best, counts
from tests.helper import LINES, chances, each_way, greatest_by_words, is_joining_by_words, random_log, small_case

# Two rings and an answer that fit 5 to 7 at a lag of 2 in some way, another ring far off.
BRIDGE = ((0, "port", 1), (10, "port", 2), (12, "aport", 2), (50, "star", 0))
ROOM = ((7, "port", 1), (16, "port", 2), (17, "aport", 2), (90, "star", 0))
NAMES = ["bridge", "room", "lag", "low", "high"]


def counted(bridge, room, lag, low, high):
    """The counts by the document's words: each difference taken one by one, by a search through all choices."""
    told = []
    for d in range(low, high + 1):
        many = len(greatest_by_words(bridge, room, d, lag)[0])
        if told and told[-1][2] == many:
            told[-1] = (told[-1][0], d, many)
        else:
            told.append((d, d, many))
    return told


class Counts(unittest.TestCase):
    def test_ordinary(self):
        # The first ring fits 5 to 7, the second one 4 to 6, the answer 5 to 7, the last ring 38 to 40.
        told = counts(BRIDGE, ROOM, 2, 0, 50)
        self.assertEqual(told, [(0, 3, 0), (4, 4, 1), (5, 6, 3), (7, 7, 2), (8, 37, 0), (38, 40, 1), (41, 50, 0)])

    def test_as_long_as_can_be(self):
        # At each difference from 0 to 5 another pair of these fits, but always one.
        bridge, room = ((0, "up", "a"),), tuple((minute, "up", "a") for minute in range(6))
        self.assertEqual(counts(bridge, room, 0, -2, 8), [(-2, -1, 0), (0, 5, 1), (6, 8, 0)])
        self.assertEqual(counts(bridge, room, 0, 1, 4), [(1, 4, 1)])

    def test_one_difference(self):
        for d, many in ((3, 0), (4, 1), (5, 3), (6, 3), (7, 2), (8, 0), (38, 1), (-1440, 0), (1440, 0)):
            self.assertEqual(counts(BRIDGE, ROOM, 2, d, d), [(d, d, many)])

    def test_a_stretch_within(self):
        self.assertEqual(counts(BRIDGE, ROOM, 2, 6, 7), [(6, 6, 3), (7, 7, 2)])
        self.assertEqual(counts(BRIDGE, ROOM, 2, 5, 6), [(5, 6, 3)])
        self.assertEqual(counts(BRIDGE, ROOM, 2, 39, 69), [(39, 40, 1), (41, 69, 0)])

    def test_stretches_of_31_and_241(self):
        self.assertEqual(counts(BRIDGE, ROOM, 0, 0, 30), [(0, 4, 0), (5, 7, 1), (8, 30, 0)])
        self.assertEqual(counts(BRIDGE, ROOM, 0, -120, 120), [(-120, 4, 0), (5, 7, 1), (8, 39, 0), (40, 40, 1),
                                                              (41, 120, 0)])

    def test_bounds_of_the_differences(self):
        later = tuple((minute + 1440, line, what) for minute, line, what in BRIDGE)
        self.assertEqual(counts(BRIDGE, later, 0, 1200, 1440)[-1], (1440, 1440, 4))
        self.assertEqual(counts(later, BRIDGE, 0, -1440, -1200)[0], (-1440, -1440, 4))
        self.assertEqual(counts(BRIDGE, later, 0, 1440, 1440), [(1440, 1440, 4)])
        self.assertEqual(counts(later, BRIDGE, 0, -1440, -1440), [(-1440, -1440, 4)])

    def test_pairs_that_fit_none_of_the_stretch_or_some_of_it(self):
        bridge, room = ((100, "port", 1),), ((150, "port", 1),)
        self.assertEqual(counts(bridge, room, 60, -100, -11), [(-100, -11, 0)])
        self.assertEqual(counts(bridge, room, 60, -100, -10), [(-100, -11, 0), (-10, -10, 1)])
        self.assertEqual(counts(bridge, room, 60, 0, 60), [(0, 50, 1), (51, 60, 0)])
        self.assertEqual(counts(bridge, room, 60, 51, 100), [(51, 100, 0)])
        self.assertEqual(counts(room, bridge, 60, -200, 0), [(-200, -111, 0), (-110, -50, 1), (-49, 0, 0)])
        bridge, room = ((100, "up", "a"),), ((150, "up", "a"),)
        self.assertEqual(counts(bridge, room, 60, 0, 200), [(0, 49, 0), (50, 110, 1), (111, 200, 0)])

    def test_no_rows(self):
        for bridge, room in (((), ()), (BRIDGE, ()), ((), ROOM)):
            self.assertEqual(counts(bridge, room, 60, -120, 120), [(-120, 120, 0)])
            self.assertEqual(counts(bridge, room), [(0, 0, 0)])

    def test_forty_rows(self):
        log = tuple((minute, "port", minute % 9 - 4) for minute in range(40))
        self.assertEqual(counts(log, log, 0, -1, 1), [(-1, -1, 0), (0, 0, 40), (1, 1, 0)])
        self.assertEqual(counts(log, log, 0, -9, 9), [(-9, -9, 31), (-8, -1, 0), (0, 0, 40), (1, 8, 0), (9, 9, 31)])

    def test_against_a_search_through_all_choices(self):
        lengths = set()
        for chance in chances(120, 31):
            bridge, room, d, lag = small_case(chance, 4, 6)
            low = d - chance.randint(0, 6)
            high = d + chance.randint(0, 6)
            wanted = counted(bridge, room, lag, low, high)
            self.assertEqual(counts(bridge, room, lag, low, high), wanted)
            lengths.add(len(wanted))
        self.assertTrue({1, 2, 3, 4, 5} <= lengths)

    def test_two_hundred_pairs_in_ordinary_time(self):
        bridge = tuple((6 * number, "port", 1) for number in range(40))
        room = tuple((48 * number, "port", 1) for number in range(5))
        for lag in (0, 30, 60):
            told = counts(bridge, room, lag, -120, 120)
            self.assertEqual((told[0][0], told[-1][1]), (-120, 120))
            self.assertTrue(all(one[1] + 1 == other[0] and one[2] != other[2] for one, other in zip(told, told[1:])))
            self.assertEqual([many for start, end, many in told if start <= 0 <= end], [5])

    def test_left_out_and_by_name(self):
        bridge, room = ((5, "port", 1),), ((6, "port", 1),)
        self.assertEqual(counts(bridge, room), [(0, 0, 0)])
        self.assertEqual(counts(bridge, room, 1), [(0, 0, 1)])
        self.assertEqual(counts(bridge, room, high=2), [(0, 0, 0), (1, 1, 1), (2, 2, 0)])
        self.assertEqual(counts(bridge, room, low=-3, lag=1), [(-3, -1, 0), (0, 0, 1)])
        for told in each_way(counts, [bridge, room, 1, -1, 2], NAMES):
            self.assertEqual(told, [(-1, -1, 0), (0, 1, 1), (2, 2, 0)])

    def test_it_is_the_askers_own(self):
        told = counts(BRIDGE, ROOM, 2, 0, 50)
        kept = list(told)
        told[0] = None
        self.assertEqual(counts(BRIDGE, ROOM, 2, 0, 50), kept)
        self.assertTrue(all(type(part) is tuple for part in kept))


class Best(unittest.TestCase):
    def test_ordinary(self):
        self.assertEqual(best(BRIDGE, ROOM, 2, 0, 50), (5, [(0, 0), (1, 1), (2, 2)]))
        self.assertEqual(best(BRIDGE, ROOM, 2, 6, 50), (6, [(0, 0), (1, 1), (2, 2)]))
        self.assertEqual(best(BRIDGE, ROOM, 2, 7, 50), (7, [(0, 0), (2, 2)]))
        self.assertEqual(best(BRIDGE, ROOM, 2, 8, 50), (38, [(3, 3)]))
        self.assertEqual(best(BRIDGE, ROOM, 2, 41, 50), (41, []))

    def test_the_least_difference(self):
        bridge, room = ((0, "up", "a"),), ((2, "up", "a"), (4, "up", "a"))
        self.assertEqual(best(bridge, room, 0, 0, 9), (2, [(0, 0)]))
        self.assertEqual(best(bridge, room, 0, 3, 9), (4, [(0, 1)]))
        self.assertEqual(best(bridge, room, 1, 0, 9), (2, [(0, 0)]))
        self.assertEqual(best(bridge, room, 1, 3, 9), (3, [(0, 0)]))
        self.assertEqual(best(bridge, room, 0, -9, 1), (-9, []))

    def test_no_rows(self):
        for bridge, room in (((), ()), (BRIDGE, ()), ((), ROOM)):
            self.assertEqual(best(bridge, room, 60, -120, 120), (-120, []))
            self.assertEqual(best(bridge, room), (0, []))

    def test_bounds_of_the_differences(self):
        later = tuple((minute + 1440, line, what) for minute, line, what in BRIDGE)
        whole = [(0, 0), (1, 1), (2, 2), (3, 3)]
        self.assertEqual(best(BRIDGE, later, 0, 1200, 1440), (1440, whole))
        self.assertEqual(best(later, BRIDGE, 0, -1440, -1200), (-1440, whole))

    def test_against_a_search_through_all_choices(self):
        seen = set()
        for chance in chances(120, 32):
            bridge, room, d, lag = small_case(chance, 4, 6)
            low, high = d - chance.randint(0, 6), d + chance.randint(0, 6)
            most = max(many for _, _, many in counted(bridge, room, lag, low, high))
            wanted = min(start for start, _, many in counted(bridge, room, lag, low, high) if many == most)
            told = best(bridge, room, lag, low, high)
            self.assertEqual(told[0], wanted)
            self.assertIn(told[1], greatest_by_words(bridge, room, wanted, lag))
            seen.add((most > 1, wanted > low))
        self.assertEqual(len(seen), 4)

    def test_great_logs(self):
        for chance in chances(4, 33):
            bridge, room = (random_log(chance, LINES, 40, 200, [-1, 0, 1, 2]) for _ in range(2))
            told = best(bridge, room, 30, -120, 120)
            many = counts(bridge, room, 30, -120, 120)
            most = max(part[2] for part in many)
            self.assertEqual(told[0], min(part[0] for part in many if part[2] == most))
            self.assertEqual(len(told[1]), most)
            self.assertTrue(is_joining_by_words(bridge, room, told[1], told[0], 30))

    def test_left_out_and_by_name(self):
        bridge, room = ((5, "port", 1),), ((6, "port", 1),)
        self.assertEqual(best(bridge, room), (0, []))
        self.assertEqual(best(bridge, room, 1), (0, [(0, 0)]))
        self.assertEqual(best(bridge, room, high=3), (1, [(0, 0)]))
        self.assertEqual(best(bridge, room, low=-4), (-4, []))
        for told in each_way(best, [bridge, room, 1, -1, 2], NAMES):
            self.assertEqual(told, (0, [(0, 0)]))

    def test_it_is_the_askers_own(self):
        told = best(BRIDGE, ROOM, 2, 0, 50)
        kept = copy.deepcopy(told)
        told[1].append(None)
        self.assertEqual(best(BRIDGE, ROOM, 2, 0, 50), kept)
        self.assertIs(type(kept), tuple)
        self.assertIs(type(kept[1]), list)


if __name__ == "__main__":
    unittest.main()
