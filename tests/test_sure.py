"""What is sure of each pair: all, some or none of the greatest joinings have it (15; 2 and 3 as far as they speak)."""

import copy
import unittest

from ringorders.errors import NoPair
from ringorders.joinings import joining
from ringorders.sure import joined_with, joined_without, sure_words
from tests.helper import (LINES, alike, chances, each_way, fitting_by_words, greatest_by_words, is_joining_by_words,
                          is_pair_by_words, odd_things, otherwise, random_log, small_case)

# Three rings alike in a row, heard as two; a word up that nothing hinders; at 5 the third ring was not yet sent
# when the first one was heard.
BRIDGE = ((0, "port", 1), (0, "port", 1), (1, "port", 1), (2, "up", "dora"))
ROOM = ((5, "port", 1), (6, "port", 1), (7, "up", "dora"))
WORDS = [((0, 0), "some"), ((0, 1), "none"), ((1, 0), "some"), ((1, 1), "some"), ((2, 1), "some"), ((3, 2), "all")]


def words_by_words(bridge, room, d, lag):
    """Of each pair that fits d whether all, some or none have it, by a search through all choices."""
    found = greatest_by_words(bridge, room, d, lag)
    told = []
    for pair in fitting_by_words(bridge, room, lag, d, d):
        have = [pair in joined for joined in found]
        told.append((pair, "all" if all(have) else "some" if any(have) else "none"))
    return told


class SureWords(unittest.TestCase):
    def test_ordinary(self):
        self.assertEqual(sure_words(BRIDGE, ROOM, 5, 1), WORDS)

    def test_at_other_differences_and_lags(self):
        self.assertEqual(sure_words(BRIDGE, ROOM, 5, 0), [((0, 0), "some"), ((1, 0), "some"), ((2, 1), "all"),
                                                          ((3, 2), "all")])
        self.assertEqual(sure_words(BRIDGE, ROOM, 6, 0), [((0, 1), "some"), ((1, 1), "some")])
        self.assertEqual(sure_words(BRIDGE, ROOM, 4, 0), [((2, 0), "all")])
        self.assertEqual(sure_words(BRIDGE, ROOM, 7, 9), [((3, 2), "all")])
        self.assertEqual(sure_words(BRIDGE, ROOM, 9, 0), [])

    def test_several_in_one_minute(self):
        log = ((0, "port", 1),) * 3
        self.assertEqual(sure_words(log, log), [((b, r), "all" if b == r else "none")
                                                for b in range(3) for r in range(3)])
        self.assertEqual(sure_words(log, log[:2]), [((0, 0), "some"), ((0, 1), "none"), ((1, 0), "some"),
                                                    ((1, 1), "some"), ((2, 0), "none"), ((2, 1), "some")])
        self.assertEqual(sure_words(log, log[:1]), [((b, 0), "some") for b in range(3)])

    def test_pairs_that_clash_by_order(self):
        bridge = ((0, "star", 1), (0, "star", 2), (0, "star", 3))
        self.assertEqual(sure_words(bridge, bridge[::-1]), [((0, 2), "some"), ((1, 1), "some"), ((2, 0), "some")])
        self.assertEqual(sure_words(bridge, (bridge[1], bridge[2], bridge[0])),
                         [((0, 2), "none"), ((1, 0), "all"), ((2, 1), "all")])

    def test_no_rows(self):
        for bridge, room in (((), ()), (BRIDGE, ()), ((), ROOM)):
            for d in (-1440, 0, 1440):
                self.assertEqual(sure_words(bridge, room, d, 60), [])

    def test_bounds_of_the_differences(self):
        later = tuple((minute + 1440, line, what) for minute, line, what in BRIDGE)
        wanted = [((0, 0), "all"), ((0, 1), "none"), ((1, 0), "none"), ((1, 1), "all"), ((2, 2), "all"), ((3, 3), "all")]
        self.assertEqual(sure_words(BRIDGE, later, 1440, 0), wanted)
        self.assertEqual(sure_words(later, BRIDGE, -1440, 0), wanted)
        self.assertEqual(sure_words(BRIDGE, later, 0, 60), [])

    def test_against_a_search_through_all_choices(self):
        seen = set()
        for chance in chances(250, 51):
            bridge, room, d, lag = small_case(chance)
            wanted = words_by_words(bridge, room, d, lag)
            self.assertEqual(sure_words(bridge, room, d, lag), wanted)
            seen |= {word for _, word in wanted}
        self.assertEqual(seen, {"all", "some", "none"})

    def test_great_logs_agree_with_joinings_with_and_without(self):
        for chance in chances(2, 52):
            bridge, room = (random_log(chance, LINES, 40, 60, [0, 1]) for _ in range(2))
            for pair, word in sure_words(bridge, room, 0, 20):
                has = joined_with(bridge, room, pair, 0, 20) is not None
                lacks = joined_without(bridge, room, pair, 0, 20) is not None
                self.assertEqual(word, {(True, False): "all", (True, True): "some", (False, True): "none"}[has, lacks])

    def test_two_hundred_pairs_in_ordinary_time(self):
        bridge, room = ((0, "up", "a"),) * 40, ((0, "up", "a"),) * 5
        told = sure_words(bridge, room)
        self.assertEqual(len(told), 200)
        self.assertEqual([pair for pair, word in told if word == "none"],
                         [(b, r) for b in range(40) for r in range(5) if not r <= b <= r + 35])
        self.assertNotIn("all", [word for _, word in told])

    def test_left_out_and_by_name(self):
        bridge, room = ((5, "port", 1),), ((6, "port", 1),)
        self.assertEqual(sure_words(bridge, room), [])
        self.assertEqual(sure_words(bridge, room, 1), [((0, 0), "all")])
        self.assertEqual(sure_words(bridge, room, lag=1), [((0, 0), "all")])
        for told in each_way(sure_words, [BRIDGE, ROOM, 5, 1], ["bridge", "room", "d", "lag"]):
            self.assertEqual(told, WORDS)

    def test_it_is_the_askers_own(self):
        told = sure_words(BRIDGE, ROOM, 5, 1)
        self.assertTrue(all(type(part) is tuple for part in told))
        told.append(None)
        told[0] = None
        self.assertEqual(sure_words(BRIDGE, ROOM, 5, 1), WORDS)


class WithAndWithout(unittest.TestCase):
    def check(self, bridge, room, pair, d, lag, found):
        having, lacking = [one for one in found if pair in one], [one for one in found if pair not in one]
        for function, among in ((joined_with, having), (joined_without, lacking)):
            told = function(bridge, room, pair, d, lag)
            if among:
                self.assertIn(told, among)
                self.assertIs(type(told), list)
            else:
                self.assertIsNone(told)

    def test_ordinary(self):
        found = greatest_by_words(BRIDGE, ROOM, 5, 1)
        self.assertEqual(sorted(found), [[(0, 0), (1, 1), (3, 2)], [(0, 0), (2, 1), (3, 2)], [(1, 0), (2, 1), (3, 2)]])
        for pair, _ in WORDS:
            self.check(BRIDGE, ROOM, pair, 5, 1, found)
        self.assertEqual(joined_with(BRIDGE, ROOM, (1, 0), 5, 1), [(1, 0), (2, 1), (3, 2)])
        self.assertEqual(joined_without(BRIDGE, ROOM, (2, 1), 5, 1), [(0, 0), (1, 1), (3, 2)])
        self.assertIsNone(joined_with(BRIDGE, ROOM, (0, 1), 5, 1))
        self.assertIsNone(joined_without(BRIDGE, ROOM, (3, 2), 5, 1))

    def test_the_only_pair(self):
        log = ((3, "up", "a"),)
        self.assertEqual(joined_with(log, log, (0, 0)), [(0, 0)])
        self.assertIsNone(joined_without(log, log, (0, 0)))

    def test_against_a_search_through_all_choices(self):
        for chance in chances(120, 53):
            bridge, room, d, lag = small_case(chance)
            found = greatest_by_words(bridge, room, d, lag)
            for pair in fitting_by_words(bridge, room, lag, d, d):
                self.check(bridge, room, pair, d, lag, found)

    def test_bounds_of_the_differences(self):
        later = tuple((minute + 1440, line, what) for minute, line, what in BRIDGE)
        whole = [(number, number) for number in range(4)]
        self.assertEqual(joined_with(BRIDGE, later, (2, 2), 1440, 0), whole)
        self.assertEqual(joined_with(later, BRIDGE, (2, 2), -1440, 0), whole)
        self.assertEqual(joined_without(later, BRIDGE, (0, 1), -1440, 0), whole)
        for function in (joined_with, joined_without):
            with self.assertRaises(NoPair):
                function(BRIDGE, later, (2, 2), 1439, 0)

    def test_two_hundred_pairs_in_ordinary_time(self):
        bridge, room = ((0, "up", "a"),) * 40, ((0, "up", "a"),) * 5
        for pair in ((0, 0), (35, 0), (20, 2), (39, 4)):
            for function, wanted in ((joined_with, True), (joined_without, False)):
                told = function(bridge, room, pair)
                self.assertTrue(is_joining_by_words(bridge, room, told, 0, 0))
                self.assertEqual((len(told), pair in told), (5, wanted))
        for pair in ((36, 0), (0, 1), (39, 3)):
            self.assertIsNone(joined_with(bridge, room, pair))

    def test_no_pair_of_whatever_it_is(self):
        for function in (joined_with, joined_without):
            for thing in odd_things() + [(0, 2), (3, 0), (4, 0), (0, 3), (-1, 2), (3, -1), [3, 2], (3, 2, 0), ("3", "2")]:
                if alike(thing, (0, 0)):
                    continue
                with self.assertRaises(NoPair, msg=thing):
                    function(BRIDGE, ROOM, thing, 5, 1)
                with self.assertRaises(NoPair, msg=thing):
                    function((), (), thing)

    def test_no_pair_with_one_thing_otherwise(self):
        for pair in ((3, 2), (1, 1), (0, 0)):
            for thing in otherwise(pair):
                fits = is_pair_by_words(BRIDGE, ROOM, thing) and thing in [pair for pair, _ in WORDS]
                for function in (joined_with, joined_without):
                    if fits:
                        function(BRIDGE, ROOM, thing, 5, 1)
                    else:
                        with self.assertRaises(NoPair, msg=thing):
                            function(BRIDGE, ROOM, thing, 5, 1)

    def test_no_pair_of_a_pair_that_does_not_fit(self):
        for function in (joined_with, joined_without):
            for pair, d, lag in (((2, 0), 5, 1), ((3, 2), 4, 0), ((0, 0), 4, 0), ((0, 0), 6, 60), ((3, 2), 3, 60)):
                with self.assertRaises(NoPair):
                    function(BRIDGE, ROOM, pair, d, lag)

    def test_truths_for_numbers(self):
        log = ((0, "up", "a"),) * 2
        for function in (joined_with, joined_without):
            for thing in ((True, 1), (1, True), (False, 0), (0, False), (False, True)):
                with self.assertRaises(NoPair):
                    function(log, log, thing)

    def test_left_out_and_by_name(self):
        bridge, room = ((5, "port", 1),), ((6, "port", 1),)
        with self.assertRaises(NoPair):
            joined_with(bridge, room, (0, 0))
        self.assertEqual(joined_with(bridge, room, (0, 0), 1), [(0, 0)])
        self.assertEqual(joined_with(bridge, room, (0, 0), lag=1), [(0, 0)])
        self.assertIsNone(joined_without(bridge, room, (0, 0), lag=1))
        names = ["bridge", "room", "pair", "d", "lag"]
        for told in each_way(joined_with, [BRIDGE, ROOM, (1, 0), 5, 1], names):
            self.assertEqual(told, [(1, 0), (2, 1), (3, 2)])
        for told in each_way(joined_without, [BRIDGE, ROOM, (2, 1), 5, 1], names):
            self.assertEqual(told, [(0, 0), (1, 1), (3, 2)])

    def test_nothing_is_changed_and_what_is_told_is_the_askers_own(self):
        for function, pair in ((joined_with, (1, 0)), (joined_without, (2, 1))):
            told = function(BRIDGE, ROOM, pair, 5, 1)
            kept = list(told)
            told.append(None)
            self.assertEqual(function(BRIDGE, ROOM, pair, 5, 1), kept)
            self.assertEqual(len(joining(BRIDGE, ROOM, 5, 1)), 3)
            for thing in odd_things():
                same = copy.deepcopy(thing)
                try:
                    function(BRIDGE, ROOM, thing, 5, 1)
                except NoPair:
                    pass
                self.assertEqual(thing, same)


if __name__ == "__main__":
    unittest.main()
