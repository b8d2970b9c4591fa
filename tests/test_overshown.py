"""Cases that show what all or none of the best joinings of a stretch have (34; 2 and 3 as far as they speak of it)."""

import copy
import unittest

from ringorders.counts import best
from ringorders.errors import NoPair
from ringorders.overall import over_words
from ringorders.overshown import over_shown, over_shows
from tests.helper import (LINES, alike, best_by_words, chances, clash_by_words, each_way, fits_by_words,
                          fitting_by_words, is_pair_by_words, is_sharing_by_words, is_whole, odd_things, otherwise,
                          random_log, small_case, word_by_words)

# With a lag of 1 the first ring fits 4 to 5, the second 5 to 6, the answer 5 to 6, "ja" fits 30 to 31 alone.
BRIDGE = ((0, "port", 1), (3, "port", 2), (5, "aport", 1), (40, "up", "ja"))
ROOM = ((5, "port", 1), (9, "port", 2), (10, "aport", 1), (70, "up", "ja"))
AT = (1, 0, 40)
ALL = [(0, 4, []), (5, 5, [[(1, 1)], [(2, 2)]]), (6, 29, [[(1, 1)], [(2, 2)]]), (30, 40, [[(3, 3)]])]
NONE = [(30, 31, [])]
NAMES = ["bridge", "room", "pair", "lag", "low", "high"]
TEXTS = ("some", "", "All", "NONE", "all ", " none", "allnone", "a", "None", "x" * 4000)


def shows_by_words(bridge, room, pair, word, thing, lag, low, high):
    """Whether a thing is cases that show a word of a pair, by the document's words."""
    if type(word) is not str or word not in ("all", "none") or type(thing) is not list:
        return False
    many = len(best_by_words(bridge, room, lag, low, high)[0][1])
    if word == "none":
        fitting = [d for d in range(low, high + 1) if fits_by_words(bridge, room, pair, d, lag)]
        low, high = min(fitting), max(fitting)
    for case in thing:
        if type(case) is not tuple or len(case) != 3 or not is_whole(case[0]) or not is_whole(case[1]):
            return False
        if case[0] != low or not low <= case[1] <= high:
            return False
        others = [other for other in fitting_by_words(bridge, room, lag, case[0], case[1]) if other != pair]
        if word == "none":
            others = [other for other in others if not clash_by_words(bridge, room, pair, other, lag, case[0], case[1])]
        if not is_sharing_by_words(bridge, room, others, case[2], lag, case[0], case[1]):
            return False
        if len(case[2]) > many - (1 if word == "all" else 2):
            return False
        low = case[1] + 1
    return low == high + 1


class OverShown(unittest.TestCase):
    def check(self, bridge, room, pair, lag, low, high, word):
        """What is told of a pair is let by for its word alone."""
        told = over_shown(bridge, room, pair, lag, low, high)
        if word == "some":
            self.assertIsNone(told)
            return
        self.assertIs(over_shows(bridge, room, pair, word, told, lag, low, high), True)
        self.assertIs(over_shows(bridge, room, pair, "none" if word == "all" else "all", told, lag, low, high), False)

    def test_ordinary(self):
        for pair in ((0, 0), (1, 1), (2, 2)):
            self.check(BRIDGE, ROOM, pair, *AT, "all")
        self.check(BRIDGE, ROOM, (3, 3), *AT, "none")
        self.assertEqual(over_shown(BRIDGE, ROOM, (3, 3), *AT), NONE)

    def test_the_only_pair(self):
        log = ((3, "up", "a"),)
        self.assertEqual(over_shown(log, log, (0, 0)), [(0, 0, [])])
        told = over_shown(log, log, (0, 0), 0, -2, 2)
        self.assertTrue(all(case[2] == [] for case in told))
        self.check(log, log, (0, 0), 0, -2, 2, "all")

    def test_against_a_search_through_all_differences_and_joinings(self):
        seen = []
        for chance in chances(100, 345):
            bridge, room, d, lag = small_case(chance, 4, 6)
            low, high = d - chance.randint(0, 5), d + chance.randint(0, 5)
            found = best_by_words(bridge, room, lag, low, high)
            for pair in fitting_by_words(bridge, room, lag, low, high):
                word = word_by_words(found, pair)
                self.check(bridge, room, pair, lag, low, high, word)
                if word != "some":
                    told = over_shown(bridge, room, pair, lag, low, high)
                    self.assertTrue(shows_by_words(bridge, room, pair, word, told, lag, low, high))
                seen.append(word)
        self.assertEqual(set(seen), {"all", "some", "none"})

    def test_stretches_of_one_difference(self):
        for chance in chances(30, 346):
            bridge, room, d, lag = small_case(chance)
            for pair, word in over_words(bridge, room, lag, d, d):
                self.check(bridge, room, pair, lag, d, d, word)

    def test_stretches_of_241_in_ordinary_time(self):
        for chance in chances(3, 347):
            bridge, room = (random_log(chance, LINES, 40, 200, [0, 1]) for _ in range(2))
            for pair, word in over_words(bridge, room, 20, -120, 120)[::9]:
                self.check(bridge, room, pair, 20, -120, 120, word)

    def test_two_hundred_pairs_in_ordinary_time(self):
        bridge = tuple((6 * number, "port", 1) for number in range(40))
        room = tuple((48 * number, "port", 1) for number in range(5))
        for pair, word in over_words(bridge, room, 60, -120, 120)[::40]:
            self.check(bridge, room, pair, 60, -120, 120, word)
        log = bridge[:14]
        for pair, word in over_words(log, log, 5, -120, 120)[::20]:
            self.check(log, log, pair, 5, -120, 120, word)
        self.check(log, log, (3, 3), 5, -120, 120, "all")

    def test_pairs_that_fit_some_of_the_stretch(self):
        # The cases for none go from the least to the greatest difference of the stretch that the pair fits.
        for low, high, first, last in ((0, 30, 30, 30), (0, 31, 30, 31), (5, 240, 30, 31), (-200, 40, 30, 31)):
            self.assertEqual(over_shown(BRIDGE, ROOM, (3, 3), 1, low, high), [(first, last, [])])
        self.assertEqual(over_shown(BRIDGE, ROOM, (3, 3), 1, 30, 40)[0][0], 30)
        self.check(BRIDGE, ROOM, (3, 3), 1, 30, 40, "all")
        self.check(BRIDGE, ROOM, (3, 3), 1, 6, 40, "none")
        self.check(BRIDGE, ROOM, (3, 3), 1, 7, 40, "all")

    def test_bounds_of_the_differences(self):
        later = tuple((minute + 1440, line, what) for minute, line, what in BRIDGE[:3])
        for bridge, room, low, high in ((BRIDGE[:3], later, 1200, 1440), (later, BRIDGE[:3], -1440, -1200)):
            for pair in ((0, 0), (1, 1), (2, 2)):
                self.check(bridge, room, pair, 0, low, high, "all")

    def test_no_pair_of_whatever_it_is(self):
        for thing in odd_things() + [(3, 0), (0, 1), (4, 4), (-1, 0), [0, 0], (0, 0, 0), ("0", "0"), (0, None)]:
            with self.assertRaises(NoPair, msg=thing):
                over_shown((), (), thing, *AT)
            if not alike(thing, (0, 0)):
                with self.assertRaises(NoPair, msg=thing):
                    over_shown(BRIDGE, ROOM, thing, *AT)
        for low, high in ((0, 3), (6, 40)):
            with self.assertRaises(NoPair):
                over_shown(BRIDGE, ROOM, (0, 0), 1, low, high)

    def test_left_out_and_by_name(self):
        bridge, room = ((5, "port", 1),), ((6, "port", 1),)
        with self.assertRaises(NoPair):
            over_shown(bridge, room, (0, 0))
        self.assertEqual(over_shown(bridge, room, (0, 0), 1), [(0, 0, [])])
        self.assertEqual(over_shown(bridge, room, (0, 0), low=1, high=1), [(1, 1, [])])
        for told in each_way(over_shown, [BRIDGE, ROOM, (3, 3), 1, 0, 40], NAMES):
            self.assertEqual(told, NONE)

    def test_it_is_the_askers_own(self):
        told = over_shown(BRIDGE, ROOM, (0, 0), *AT)
        kept = copy.deepcopy(told)
        self.assertTrue(all(type(case) is tuple and type(case[2]) is list for case in told))
        told[1][2].append(None)
        told.append(None)
        self.assertEqual(over_shown(BRIDGE, ROOM, (0, 0), *AT), kept)


class OverShows(unittest.TestCase):
    def test_ordinary(self):
        self.assertIs(over_shows(BRIDGE, ROOM, (0, 0), "all", ALL, *AT), True)
        self.assertIs(over_shows(BRIDGE, ROOM, (0, 0), "none", ALL, *AT), False)
        self.assertIs(over_shows(BRIDGE, ROOM, (3, 3), "none", NONE, *AT), True)
        self.assertIs(over_shows(BRIDGE, ROOM, (3, 3), "all", NONE, *AT), False)
        self.assertIs(over_shows(BRIDGE, ROOM, (1, 1), "all", ALL, *AT), False)

    def test_cases_cut_otherwise(self):
        # From 0 to 29 both others fit somewhere, and two crowds are fewer than three.
        others = [[(1, 1)], [(2, 2)]]
        for cases in ([(0, 29, others), (30, 40, [[(3, 3)]])], [(0, 40, [[(1, 1), (3, 3)], [(2, 2)]])],
                      [(0, 5, others), (6, 6, others), (7, 29, []), (30, 30, [[(3, 3)]]), (31, 40, [[(3, 3)]])]):
            self.assertIs(over_shows(BRIDGE, ROOM, (0, 0), "all", cases, *AT), True)
        self.assertIs(over_shows(BRIDGE, ROOM, (3, 3), "none", [(30, 30, []), (31, 31, [])], *AT), True)
        # Two at once that fit no difference together clash by the clocks.
        self.assertIs(over_shows(BRIDGE, ROOM, (0, 0), "all", [(0, 40, [[(1, 1), (2, 2)], [(3, 3)]])], *AT), False)
        self.assertIs(over_shows(BRIDGE, ROOM, (0, 0), "all", [(0, 40, [[(1, 1)], [(2, 2)], [(3, 3)]])], *AT), False)

    def test_begun_or_ended_otherwise(self):
        for cases in (ALL[1:], ALL[:-1], [(1, 4, [])] + ALL[1:], [(-1, 4, [])] + ALL[1:],
                      ALL[:-1] + [(30, 41, ALL[3][2])], ALL[:-1] + [(30, 39, ALL[3][2])], [ALL[0], ALL[0]] + ALL[1:],
                      ALL[::-1], ALL[:1] + ALL[2:], [], [(0, 4, []), (6, 5, []), (6, 29, ALL[2][2]), ALL[3]],
                      tuple(ALL), [list(case) for case in ALL]):
            self.assertIs(over_shows(BRIDGE, ROOM, (0, 0), "all", cases, *AT), False, cases)
        for cases in ([(29, 31, [])], [(30, 32, [])], [(30, 30, [])], [(31, 31, [])], [(0, 40, [])], [],
                      [(30, 31, []), (32, 40, [])], [(30, 31, [[(3, 3)]])], [(30, 31, [[]])], [(30, 31, ())],
                      [(True, 31, [])], ((30, 31, []),)):
            self.assertIs(over_shows(BRIDGE, ROOM, (3, 3), "none", cases, *AT), False, cases)

    def test_fewer_by_one_and_by_two(self):
        log = ((0, "up", "a"),) * 3
        self.assertIs(over_shows(log, log, (0, 1), "none", [(0, 0, [[(1, 2), (2, 2)]])], 0, 0, 0), True)
        self.assertIs(over_shows(log, log, (0, 1), "none", [(0, 0, [[(1, 2)], [(2, 2)]])], 0, 0, 0), False)
        self.assertIs(over_shows(log, log, (0, 2), "none", [(0, 0, [])], 0, -5, 5), True)
        crowds = [[(0, 1), (0, 2), (1, 0), (1, 1), (2, 0)], [(1, 2), (2, 1), (2, 2)]]
        around = [(-5, -1, []), (0, 0, crowds), (1, 5, [])]
        self.assertIs(over_shows(log, log, (0, 0), "all", around, 0, -5, 5), True)
        around[1] = (0, 0, crowds[:1] + [crowds[1][:1], crowds[1][1:]])
        self.assertIs(over_shows(log, log, (0, 0), "all", around, 0, -5, 5), False)

    def test_the_greatest_count_is_that_of_the_whole_stretch(self):
        # At 7 no joining has more than one pair: with less than three it is none of the best.
        bridge, room = BRIDGE[:3] + ((100, "up", "a"),), ROOM[:3] + ((107, "up", "a"),)
        self.assertIs(over_shows(bridge, room, (3, 3), "none", [(7, 8, [])], 1, 0, 40), True)
        with self.assertRaises(NoPair):
            over_shows(bridge, room, (3, 3), "none", [], 1, 0, 6)
        self.assertIs(over_shows(bridge, room, (3, 3), "all", [(7, 40, [])], 1, 7, 40), True)
        self.assertIs(over_shows(bridge, room, (3, 3), "none", [(7, 8, [])], 1, 7, 40), False)

    def test_each_other_text_and_word(self):
        for word in TEXTS + (None, True, 0, [], ("all",), ["all"], {"all": 1}, {}, 10 ** 99):
            self.assertIs(over_shows(BRIDGE, ROOM, (0, 0), word, ALL, *AT), False, word)
            self.assertIs(over_shows(BRIDGE, ROOM, (3, 3), word, NONE, *AT), False, word)

    def test_no_pair_goes_ahead_of_false(self):
        for word in ("all", "none", None, 1, []) + TEXTS:
            for thing in (ALL, NONE, None, [], {}, 7):
                for pair in ((3, 0), (9, 9), None, [3, 3], (True, 1), (3, 3, 1), "33", 0, {}):
                    with self.assertRaises(NoPair):
                        over_shows(BRIDGE, ROOM, pair, word, thing, *AT)
                with self.assertRaises(NoPair):
                    over_shows(BRIDGE, ROOM, (3, 3), word, thing, 1, 0, 29)
        for thing in odd_things():
            if not alike(thing, (0, 0)):
                with self.assertRaises(NoPair, msg=thing):
                    over_shows(BRIDGE, ROOM, thing, "all", ALL, *AT)

    def test_no_pair_with_one_thing_otherwise(self):
        for thing in otherwise((3, 3)):
            if not is_pair_by_words(BRIDGE, ROOM, thing):
                with self.assertRaises(NoPair, msg=thing):
                    over_shows(BRIDGE, ROOM, thing, "none", NONE, *AT)

    def test_whatever_it_is(self):
        for thing in odd_things():
            for pair in ((0, 0), (3, 3)):
                for word in ("all", "none"):
                    self.assertIs(over_shows(BRIDGE, ROOM, pair, word, thing, *AT), False, thing)

    def test_one_thing_otherwise(self):
        log = ((0, "up", "a"),) * 3
        crowds = [(0, 0, [[(1, 2), (2, 2)]])]
        for bridge, room, pair, word, right, at in ((BRIDGE, ROOM, (0, 0), "all", ALL, AT),
                                                    (log, log, (0, 1), "none", crowds, (0, 0, 2)),
                                                    (BRIDGE, ROOM, (3, 3), "none", NONE, AT)):
            seen = set()
            for thing in otherwise(right):
                wanted = shows_by_words(bridge, room, pair, word, thing, *at)
                self.assertIs(over_shows(bridge, room, pair, word, thing, *at), wanted, thing)
                seen.add(wanted)
            self.assertIn(False, seen)

    def test_truths_for_numbers(self):
        log = ((0, "up", "a"),) * 2
        others = [(0, 1), (1, 0), (1, 1)]
        right = [(0, 0, [others]), (1, 1, [])]
        self.assertIs(over_shows(log, log, (0, 0), "all", right, 0, 0, 1), True)
        for thing in ([(False, 0, [others]), right[1]], [(0, False, [others]), right[1]], [right[0], (True, 1, [])],
                      [right[0], (1, True, [])], [(0, 0, [[(0, True), (1, 0), (1, 1)]]), right[1]],
                      [(0, 0, [[(0, 1), (1, False), (1, 1)]]), right[1]]):
            self.assertIs(over_shows(log, log, (0, 0), "all", thing, 0, 0, 1), False, thing)

    def test_by_chance(self):
        seen = []
        for chance in chances(40, 348):
            bridge, room, d, lag = small_case(chance, 4, 6)
            low, high = d - chance.randint(0, 4), d + chance.randint(0, 4)
            for pair in fitting_by_words(bridge, room, lag, low, high):
                told = over_shown(bridge, room, pair, lag, low, high) or [(low, high, [[pair]])]
                joined = len(best(bridge, room, lag, low, high)[1])
                for thing in [told] + chance.sample(list(otherwise(told)), 5):
                    for word in ("all", "none"):
                        wanted = shows_by_words(bridge, room, pair, word, thing, lag, low, high)
                        self.assertIs(over_shows(bridge, room, pair, word, thing, lag, low, high), wanted, thing)
                        seen.append((word, wanted, joined > 1))
        self.assertEqual({(word, wanted) for word, wanted, _ in seen},
                         {("all", True), ("all", False), ("none", True), ("none", False)})

    def test_left_out_and_by_name(self):
        bridge, room = ((5, "port", 1),), ((6, "port", 1),)
        with self.assertRaises(NoPair):
            over_shows(bridge, room, (0, 0), "all", [(0, 0, [])])
        self.assertIs(over_shows(bridge, room, (0, 0), "all", [(0, 0, [])], 1), True)
        self.assertIs(over_shows(bridge, room, (0, 0), "all", [(0, 1, [])], high=1), True)
        names = NAMES[:3] + ["word", "thing"] + NAMES[3:]
        for told in each_way(over_shows, [BRIDGE, ROOM, (0, 0), "all", ALL, *AT], names):
            self.assertIs(told, True)

    def test_nothing_is_changed(self):
        for thing in odd_things() + [ALL, NONE, ALL[::-1]]:
            kept = copy.deepcopy(thing)
            for word in ("all", "none", "some"):
                over_shows(BRIDGE, ROOM, (0, 0), word, thing, *AT)
                over_shows(BRIDGE, ROOM, (3, 3), word, thing, *AT)
            self.assertEqual(thing, kept)


if __name__ == "__main__":
    unittest.main()
