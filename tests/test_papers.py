"""Papers of the best: one is told, and whether a thing is one (14; 2 and 3 as far as they speak of them)."""

import copy
import unittest

from ringorders.counts import best, counts
from ringorders.papers import best_paper, is_best
from tests.helper import (LINES, alike, chances, each_way, fitting_by_words, is_joining_by_words, is_sharing_by_words,
                          is_whole, odd_things, otherwise, random_log, small_case)

# The first ring fits 5 and 6, the second one 3 and 4, the answer 4 and 5; two answers in one minute.
BRIDGE = ((0, "port", 1), (10, "port", 1), (12, "aport", 1), (12, "aport", 1))
ROOM = ((6, "port", 1), (14, "port", 1), (16, "aport", 1))
PAPER = (4, [(1, 1), (2, 2)], [
    (0, 3, [[(1, 1)]]),
    (4, 4, [[(1, 1)], [(2, 2), (3, 2)]]),
    (5, 8, [[(0, 0)], [(2, 2), (3, 2)]]),
])
AT = (1, 0, 8)
NAMES = ["bridge", "room", "lag", "low", "high"]


def is_best_by_words(bridge, room, thing, lag, low, high):
    """Whether a thing is a paper of the best, by the document's words."""
    if type(thing) is not tuple or len(thing) != 3:
        return False
    d, joined, cases = thing
    if not is_whole(d) or not low <= d <= high or not is_joining_by_words(bridge, room, joined, d, lag):
        return False
    if type(cases) is not list:
        return False
    for case in cases:
        if type(case) is not tuple or len(case) != 3 or not is_whole(case[0]) or not is_whole(case[1]):
            return False
    if [d for case in cases for d in range(max(case[0], -2000), min(case[1], 2000) + 1)] != list(range(low, high + 1)):
        return False
    for start, end, crowds in cases:
        pairs = fitting_by_words(bridge, room, lag, start, end)
        if end < start or not is_sharing_by_words(bridge, room, pairs, crowds, lag, start, end):
            return False
        if len(crowds) > len(joined):
            return False
    return True


class Told(unittest.TestCase):
    def check(self, bridge, room, lag, low, high):
        told = best_paper(bridge, room, lag, low, high)
        self.assertTrue(is_best_by_words(bridge, room, told, lag, low, high), told)
        self.assertIs(is_best(bridge, room, told, lag, low, high), True)
        self.assertEqual(len(told[1]), len(best(bridge, room, lag, low, high)[1]))
        return told

    def test_ordinary(self):
        told = self.check(BRIDGE, ROOM, *AT)
        self.assertEqual(len(told[1]), 2)
        self.assertIn(told[0], (4, 5))

    def test_no_rows(self):
        for bridge, room in (((), ()), (BRIDGE, ()), ((), ROOM)):
            for low, high in ((0, 0), (-15, 15), (-120, 120), (-1440, -1440), (1440, 1440)):
                self.assertEqual(self.check(bridge, room, 60, low, high)[1], [])

    def test_stretches(self):
        for low, high in ((4, 4), (5, 5), (2, 2), (9, 9), (-10, 20), (0, 30), (-120, 120), (-236, 4), (4, 244)):
            for lag in (0, 1, 5, 60):
                self.check(BRIDGE, ROOM, lag, low, high)

    def test_pairs_that_fit_none_of_the_stretch_or_some_of_it(self):
        self.assertEqual(self.check(BRIDGE, ROOM, 0, 100, 200)[1], [])
        self.assertEqual(len(self.check(BRIDGE, ROOM, 1, 6, 200)[1]), 1)

    def test_bounds_of_the_differences(self):
        later = tuple((minute + 1440, line, what) for minute, line, what in BRIDGE)
        for low, high in ((1440, 1440), (1410, 1440), (1200, 1440)):
            self.assertEqual(self.check(BRIDGE, later, 1, low, high)[0], 1440)
            self.assertEqual(self.check(later, BRIDGE, 1, -high, -low)[0], -1440)

    def test_by_chance(self):
        for chance in chances(80, 41):
            bridge, room, d, lag = small_case(chance, 5, 8)
            self.check(bridge, room, lag, d - chance.randint(0, 8), d + chance.randint(0, 8))

    def test_great_logs_in_ordinary_time(self):
        for chance in chances(3, 42):
            bridge, room = (random_log(chance, LINES, 40, 200, [-1, 0, 1, 2]) for _ in range(2))
            for lag in (0, 60):
                self.assertIs(is_best(bridge, room, best_paper(bridge, room, lag, -120, 120), lag, -120, 120), True)

    def test_two_hundred_pairs_in_ordinary_time(self):
        bridge = tuple((6 * number, "port", 1) for number in range(40))
        room = tuple((48 * number, "port", 1) for number in range(5))
        same = ((7, "up", "a"),) * 14
        for lag in (0, 30, 60):
            told = best_paper(bridge, room, lag, -120, 120)
            self.assertEqual(len(told[1]), 5)
            self.assertIs(is_best(bridge, room, told, lag, -120, 120), True)
            told = best_paper(same, same, lag, -120, 120)
            self.assertEqual(len(told[1]), 14)
            self.assertIs(is_best(same, same, told, lag, -120, 120), True)

    def test_left_out_and_by_name(self):
        bridge, room = ((5, "port", 1),), ((6, "port", 1),)
        self.assertEqual(best_paper(bridge, room)[:2], (0, []))
        self.assertEqual(best_paper(bridge, room, 1)[:2], (0, [(0, 0)]))
        self.assertEqual(best_paper(bridge, room, high=1)[:2], (1, [(0, 0)]))
        for told in each_way(best_paper, [bridge, room, 1, -1, 2], NAMES):
            self.assertTrue(is_best_by_words(bridge, room, told, 1, -1, 2))

    def test_it_is_the_askers_own(self):
        told = best_paper(BRIDGE, ROOM, *AT)
        kept = copy.deepcopy(told)
        told[1].append(None)
        for _, _, crowds in told[2]:
            for crowd in crowds:
                crowd.append(None)
            crowds.append(None)
        told[2].append(None)
        self.assertEqual(best_paper(BRIDGE, ROOM, *AT), kept)


class IsBest(unittest.TestCase):
    def test_ordinary(self):
        self.assertIs(is_best(BRIDGE, ROOM, PAPER, *AT), True)

    def test_any_difference_with_so_many(self):
        self.assertIs(is_best(BRIDGE, ROOM, (5, [(0, 0), (2, 2)], PAPER[2]), *AT), True)
        self.assertIs(is_best(BRIDGE, ROOM, (4, [(1, 1), (3, 2)], PAPER[2]), *AT), True)
        self.assertIs(is_best(BRIDGE, ROOM, (4, [(0, 0), (2, 2)], PAPER[2]), *AT), False)
        self.assertIs(is_best(BRIDGE, ROOM, (6, [(0, 0)], PAPER[2]), *AT), False)
        self.assertIs(is_best(BRIDGE, ROOM, (6, [(0, 0), (2, 2)], PAPER[2]), *AT), False)

    def test_a_difference_beyond_the_stretch(self):
        bridge, room = ((0, "up", "a"),), ((5, "up", "a"),)
        self.assertIs(is_best(bridge, room, (5, [(0, 0)], [(0, 5, [[(0, 0)]])]), 0, 0, 5), True)
        self.assertIs(is_best(bridge, room, (5, [(0, 0)], [(0, 4, [])]), 0, 0, 4), False)
        self.assertIs(is_best(bridge, room, (0, [], [(0, 4, [])]), 0, 0, 4), True)
        self.assertIs(is_best(bridge, room, (5, [], [(0, 4, [])]), 0, 0, 4), False)
        self.assertIs(is_best(bridge, room, (-1, [], [(0, 4, [])]), 0, 0, 4), False)
        self.assertIs(is_best(bridge, room, (5, [(0, 0)], [(6, 9, [])]), 0, 6, 9), False)

    def test_wide_cases_with_clashes_by_the_clocks(self):
        bridge, room = ((0, "port", 1), (10, "star", 1)), ((4, "port", 1), (15, "star", 1))
        crowd = [[(0, 0), (1, 1)]]
        for thing in ((4, [(0, 0)], [(-9, 9, crowd)]), (5, [(1, 1)], [(-9, 9, crowd)]),
                      (4, [(0, 0)], [(-9, 4, [[(0, 0)]]), (5, 9, [[(1, 1)]])])):
            self.assertIs(is_best(bridge, room, thing, 0, -9, 9), True)
        # At a lag of 1 both fit 4.
        self.assertIs(is_best(bridge, room, (4, [(0, 0)], [(-9, 9, crowd)]), 1, -9, 9), False)
        self.assertIs(is_best(bridge, room, (4, [(0, 0), (1, 1)], [(-9, 9, crowd)]), 1, -9, 9), False)
        thing = (4, [(0, 0), (1, 1)], [(-9, 9, [[(0, 0)], [(1, 1)]])])
        self.assertIs(is_best(bridge, room, thing, 1, -9, 9), True)
        thing = (3, [(0, 0)], [(-9, 3, [[(0, 0)]])])
        self.assertIs(is_best(bridge, room, thing, 1, -9, 3), True)

    def test_all_pairs_of_a_case_and_no_others(self):
        bridge, room = ((0, "port", 1), (10, "star", 1)), ((4, "port", 1), (15, "star", 1))
        for case, wanted in (([[(0, 0), (1, 1)]], False), ([[(0, 0)]], True), ([[(1, 1)]], False), ([], False)):
            self.assertIs(is_best(bridge, room, (4, [(0, 0)], [(-9, 4, case)]), 0, -9, 4), wanted)

    def test_cases_stand_one_behind_the_other(self):
        cases = PAPER[2]
        for other in ([], cases[:2], cases[1:], cases[::2], cases[::-1], cases + cases, cases + cases[-1:],
                      [(0, 4, cases[1][2]), cases[2]], [(0, 4, cases[0][2]), cases[2]],
                      cases[:1] + cases, [(0, 8, cases[1][2])], [(0, 4, cases[1][2]), cases[2]],
                      [(1, 3, cases[0][2])] + cases[1:], cases[:2] + [(5, 7, cases[2][2])],
                      cases[:2] + [(5, 9, cases[2][2])], [(-1, 3, cases[0][2])] + cases[1:],
                      [cases[0], (4, 5, cases[1][2]), cases[2]], [(0, 4, cases[0][2])] + cases[1:],
                      [(0, -1, []), *cases], cases + [(9, 8, [])], cases + [(9, 9, [])],
                      [(0, 3, cases[0][2]), (4, 3, []), (4, 4, cases[1][2]), cases[2]]):
            thing = (4, PAPER[1], other)
            wanted = is_best_by_words(BRIDGE, ROOM, thing, *AT)
            self.assertIs(is_best(BRIDGE, ROOM, thing, *AT), wanted, other)
            # All that the first case shares is shared alike in the second one, so that these may be made one.
            self.assertIs(wanted, other == [(0, 4, cases[1][2]), cases[2]])

    def test_too_many_crowds(self):
        log = ((0, "up", "a"),) * 2
        pairs = [(0, 0), (0, 1), (1, 0), (1, 1)]
        whole = (0, [(0, 0), (1, 1)], [(0, 0, [pairs[:3], pairs[3:]])])
        self.assertIs(is_best(log, log, whole), True)
        self.assertIs(is_best(log, log, (0, [(0, 0)], whole[2])), False)
        self.assertIs(is_best(log, log, (0, [], whole[2])), False)
        self.assertIs(is_best(log, log, (0, whole[1], [(0, 0, [[pair] for pair in pairs])])), False)
        self.assertIs(is_best(log, log, (0, whole[1], [(0, 0, [pairs[:2], pairs[2:3], pairs[3:]])])), False)

    def test_whatever_it_is(self):
        for thing in odd_things():
            self.assertIs(is_best(BRIDGE, ROOM, thing, *AT), False, thing)
            self.assertIs(is_best((), (), thing), False, thing)
            for at in range(3):
                other = PAPER[:at] + (thing,) + PAPER[at + 1:]
                self.assertIs(is_best(BRIDGE, ROOM, other, *AT), False, other)
                case = PAPER[2][0][:at] + (thing,) + PAPER[2][0][at + 1:]
                self.assertIs(is_best(BRIDGE, ROOM, PAPER[:2] + ([case] + PAPER[2][1:],), *AT), False, case)

    def test_one_thing_otherwise(self):
        seen = set()
        for thing in otherwise(PAPER):
            if not alike(thing, PAPER):
                wanted = is_best_by_words(BRIDGE, ROOM, thing, *AT)
                self.assertIs(is_best(BRIDGE, ROOM, thing, *AT), wanted, thing)
                seen.add(wanted)
        self.assertEqual(seen, {True, False})

    def test_one_thing_otherwise_by_chance(self):
        seen = set()
        for chance in chances(12, 43):
            bridge, room, d, lag = small_case(chance, 4, 6)
            told = best_paper(bridge, room, lag, d - 2, d + 3)
            things = list(otherwise(told))
            for thing in chance.sample(things, min(len(things), 60)):
                wanted = is_best_by_words(bridge, room, thing, lag, d - 2, d + 3)
                self.assertIs(is_best(bridge, room, thing, lag, d - 2, d + 3), wanted, thing)
                seen.add(wanted)
        self.assertEqual(seen, {True, False})

    def test_truths_for_numbers(self):
        log = ((0, "up", "a"),) * 2
        paper = (0, [(0, 0), (1, 1)], [(0, 0, [[(0, 0), (0, 1), (1, 0)], [(1, 1)]]), (1, 1, [])])
        self.assertIs(is_best(log, log, paper, 0, 0, 1), True)
        case = paper[2][0]
        for other in ((False, *paper[1:]), (0, [(0, False), (1, 1)], paper[2]), (0, [(0, 0), (True, 1)], paper[2]),
                      (0, paper[1], [(False, 0, case[2]), paper[2][1]]), (0, paper[1], [(0, False, case[2]), paper[2][1]]),
                      (0, paper[1], [case, (True, 1, [])]), (0, paper[1], [case, (1, True, [])]),
                      (0, paper[1], [(0, 0, [case[2][0], [(True, True)]]), paper[2][1]])):
            self.assertIs(is_best(log, log, other, 0, 0, 1), False, other)

    def test_another_stretch_or_lag(self):
        for at in ((1, 0, 7), (1, 1, 8), (0, 0, 8), (1, 0, 9), (1, -1, 8)):
            self.assertIs(is_best(BRIDGE, ROOM, PAPER, *at), False, at)

    def test_left_out_and_by_name(self):
        bridge, room = ((5, "port", 1),), ((6, "port", 1),)
        self.assertIs(is_best(bridge, room, (0, [], [(0, 0, [])])), True)
        self.assertIs(is_best(bridge, room, (0, [(0, 0)], [(0, 0, [[(0, 0)]])]), lag=1), True)
        self.assertIs(is_best(bridge, room, (1, [(0, 0)], [(0, 1, [[(0, 0)]])]), high=1), True)
        self.assertIs(is_best(bridge, room, (-1, [], [(-1, 0, [])]), low=-1), True)
        names = ["bridge", "room", "thing", "lag", "low", "high"]
        for told in each_way(is_best, [BRIDGE, ROOM, PAPER, *AT], names):
            self.assertIs(told, True)

    def test_no_paper_of_one_that_is_not_the_best(self):
        for chance in chances(60, 44):
            bridge, room, d, lag = small_case(chance, 4, 6)
            told = best_paper(bridge, room, lag, d - 3, d + 3)
            many = {at: part[2] for part in counts(bridge, room, lag, d - 3, d + 3) for at in range(part[0], part[1] + 1)}
            if told[1]:
                self.assertIs(is_best(bridge, room, (told[0], told[1][1:], told[2]), lag, d - 3, d + 3), False)
            for at in many:
                if many[at] < len(told[1]):
                    self.assertIs(is_best(bridge, room, (at,) + told[1:], lag, d - 3, d + 3), False)

    def test_nothing_is_changed(self):
        for thing in odd_things() + [PAPER, (4, PAPER[1][::-1], PAPER[2]), (4, PAPER[1], PAPER[2][::-1])]:
            kept = copy.deepcopy(thing)
            is_best(BRIDGE, ROOM, thing, *AT)
            self.assertEqual(thing, kept)


if __name__ == "__main__":
    unittest.main()
