"""Whether all, some or none of the best joinings of a stretch have a pair (34; 2 and 3 as far as they speak of it)."""

import copy
import unittest

from ringorders.counts import best
from ringorders.errors import NoPair
from ringorders.joinings import is_joining
from ringorders.overall import over_with, over_without, over_words
from ringorders.stretches import spans_in
from ringorders.sure import sure_words
from tests.helper import (LINES, alike, best_by_words, chances, each_way, fitting_by_words, is_pair_by_words,
                          odd_things, otherwise, random_log, small_case, word_by_words)

# With a lag of 1 the first ring fits 4 to 5, the second 5 to 6, the answer 5 to 6, "ja" fits 30 to 31 alone.
BRIDGE = ((0, "port", 1), (3, "port", 2), (5, "aport", 1), (40, "up", "ja"))
ROOM = ((5, "port", 1), (9, "port", 2), (10, "aport", 1), (70, "up", "ja"))
AT = (1, 0, 40)
NAMES = ["bridge", "room", "pair", "lag", "low", "high"]


class OverWords(unittest.TestCase):
    def test_ordinary(self):
        # Three pairs go together at 5 alone.
        self.assertEqual(over_words(BRIDGE, ROOM, *AT),
                         [((0, 0), "all"), ((1, 1), "all"), ((2, 2), "all"), ((3, 3), "none")])

    def test_over_several_best_differences(self):
        bridge, room = ((0, "port", 1), (50, "up", "a")), ((5, "port", 1), (6, "port", 1), (57, "up", "a"))
        # At 5, 6 and 7 one pair goes, another one each time.
        told = over_words(bridge, room, 0, 0, 10)
        self.assertEqual(told, [((0, 0), "some"), ((0, 1), "some"), ((1, 2), "some")])
        self.assertEqual(over_words(bridge, room, 0, 0, 5), [((0, 0), "all")])
        self.assertEqual(over_words(bridge, room, 1, 6, 6), [((0, 1), "all")])
        self.assertEqual(over_words(bridge, room, 1, 0, 10), [((0, 0), "some"), ((0, 1), "some"), ((1, 2), "some")])
        self.assertEqual(over_words(bridge, room, 2, 6, 7), [((0, 1), "some"), ((1, 2), "some")])

    def test_stretches_of_one_difference(self):
        for chance in chances(40, 341):
            bridge, room, d, lag = small_case(chance)
            self.assertEqual(over_words(bridge, room, lag, d, d), sure_words(bridge, room, d, lag))

    def test_nothing_fits(self):
        for bridge, room in (((), ()), (BRIDGE, ()), ((), ROOM), (BRIDGE, ROOM)):
            self.assertEqual(over_words(bridge, room, 0, 200, 440), [])
            self.assertEqual(over_words(bridge, room), [])

    def test_against_a_search_through_all_differences_and_joinings(self):
        seen = set()
        for chance in chances(120, 342):
            bridge, room, d, lag = small_case(chance, 4, 6)
            low, high = d - chance.randint(0, 5), d + chance.randint(0, 5)
            found = best_by_words(bridge, room, lag, low, high)
            wanted = [(pair, word_by_words(found, pair)) for pair in fitting_by_words(bridge, room, lag, low, high)]
            self.assertEqual(over_words(bridge, room, lag, low, high), wanted)
            seen |= {word for _, word in wanted}
        self.assertEqual(seen, {"all", "some", "none"})

    def test_stretches_of_241_in_ordinary_time(self):
        for chance in chances(3, 343):
            bridge, room = (random_log(chance, LINES, 40, 200, [0, 1]) for _ in range(2))
            told = over_words(bridge, room, 20, -120, 120)
            self.assertEqual([pair for pair, _ in told], [pair for pair, _, _ in spans_in(bridge, room, 20, -120, 120)])
            for (b, r), word in told[::9]:
                having = over_with(bridge, room, (b, r), 20, -120, 120)
                lacking = over_without(bridge, room, (b, r), 20, -120, 120)
                self.assertEqual((having is not None, lacking is not None),
                                 {"all": (True, False), "some": (True, True), "none": (False, True)}[word])

    def test_bounds_of_the_differences(self):
        later = tuple((minute + 1440, line, what) for minute, line, what in BRIDGE[:3])
        words = [((0, 0), "all"), ((1, 1), "all"), ((2, 2), "all")]
        self.assertEqual(over_words(BRIDGE[:3], later, 0, 1200, 1440), words)
        self.assertEqual(over_words(later, BRIDGE[:3], 0, -1440, -1200), words)

    def test_left_out_and_by_name(self):
        bridge, room = ((5, "port", 1),), ((6, "port", 1),)
        self.assertEqual(over_words(bridge, room), [])
        self.assertEqual(over_words(bridge, room, 1), [((0, 0), "all")])
        self.assertEqual(over_words(bridge, room, high=1), [((0, 0), "all")])
        self.assertEqual(over_words(bridge, room, low=-5, lag=1), [((0, 0), "all")])
        for told in each_way(over_words, [BRIDGE, ROOM, 1, 4, 31], NAMES[:2] + NAMES[3:]):
            self.assertEqual(told[-1], ((3, 3), "none"))

    def test_it_is_the_askers_own(self):
        told = over_words(BRIDGE, ROOM, *AT)
        kept = list(told)
        told.clear()
        self.assertEqual(over_words(BRIDGE, ROOM, *AT), kept)
        self.assertTrue(all(type(part) is tuple for part in kept))


class WithAndWithout(unittest.TestCase):
    def check(self, bridge, room, lag, low, high, pair, word):
        """Each tells a best joining, or None, as the word of the pair is."""
        most = len(best(bridge, room, lag, low, high)[1])
        having = over_with(bridge, room, pair, lag, low, high)
        lacking = over_without(bridge, room, pair, lag, low, high)
        self.assertEqual((having is None, lacking is None), (word == "none", word == "all"))
        for told in (having, lacking):
            if told is not None:
                d, joined = told
                self.assertEqual((type(told), type(joined)), (tuple, list))
                self.assertTrue(low <= d <= high and is_joining(bridge, room, joined, d, lag))
                self.assertEqual((len(joined), pair in joined), (most, told is having))

    def test_ordinary(self):
        wanted = (5, [(0, 0), (1, 1), (2, 2)])
        for pair in ((0, 0), (1, 1), (2, 2)):
            self.assertEqual(over_with(BRIDGE, ROOM, pair, *AT), wanted)
            self.assertIsNone(over_without(BRIDGE, ROOM, pair, *AT))
        self.assertIsNone(over_with(BRIDGE, ROOM, (3, 3), *AT))
        self.assertEqual(over_without(BRIDGE, ROOM, (3, 3), *AT), wanted)

    def test_against_a_search_through_all_differences_and_joinings(self):
        for chance in chances(100, 344):
            bridge, room, d, lag = small_case(chance, 4, 6)
            low, high = d - chance.randint(0, 5), d + chance.randint(0, 5)
            found = best_by_words(bridge, room, lag, low, high)
            for pair in fitting_by_words(bridge, room, lag, low, high):
                self.check(bridge, room, lag, low, high, pair, word_by_words(found, pair))

    def test_a_pair_that_fits_some_of_the_best_differences(self):
        bridge, room = ((0, "port", 1),), ((5, "port", 1), (7, "port", 1))
        for pair, d, other, other_d in (((0, 0), 5, (0, 1), 7), ((0, 1), 7, (0, 0), 5)):
            self.assertEqual(over_with(bridge, room, pair, 0, 0, 10), (d, [pair]))
            self.assertEqual(over_without(bridge, room, pair, 0, 0, 10), (other_d, [other]))
            self.assertIsNone(over_without(bridge, room, pair, 0, d, d))

    def test_no_pair_of_whatever_it_is(self):
        for thing in odd_things() + [(3, 0), (0, 1), (4, 4), (-1, 0), (0, -4), [0, 0], (0, 0, 0), ("0", "0"),
                                     (0, None)]:
            for function in (over_with, over_without):
                with self.assertRaises(NoPair, msg=thing):
                    function((), ROOM, thing, *AT)
                if not alike(thing, (0, 0)):
                    with self.assertRaises(NoPair, msg=thing):
                        function(BRIDGE, ROOM, thing, *AT)

    def test_no_pair_with_one_thing_otherwise(self):
        for thing in otherwise((1, 1)):
            if is_pair_by_words(BRIDGE, ROOM, thing):
                continue
            for function in (over_with, over_without):
                with self.assertRaises(NoPair, msg=thing):
                    function(BRIDGE, ROOM, thing, *AT)

    def test_pairs_that_fit_none_of_the_stretch(self):
        for low, high, fits in ((0, 3, False), (0, 4, True), (4, 5, True), (5, 5, True), (5, 40, True), (6, 40, False)):
            for function in (over_with, over_without):
                if fits:
                    function(BRIDGE, ROOM, (0, 0), 1, low, high)
                else:
                    with self.assertRaises(NoPair):
                        function(BRIDGE, ROOM, (0, 0), 1, low, high)

    def test_left_out_and_by_name(self):
        bridge, room = ((5, "port", 1),), ((6, "port", 1),)
        for function in (over_with, over_without):
            with self.assertRaises(NoPair):
                function(bridge, room, (0, 0))
            wanted = (0, [(0, 0)]) if function is over_with else None
            self.assertEqual(function(bridge, room, (0, 0), 1), wanted)
            self.assertEqual(function(bridge, room, (0, 0), lag=1, low=-3), wanted)
            for told in each_way(function, [BRIDGE, ROOM, (1, 1), 1, 4, 9], NAMES):
                self.assertEqual(told, (5, [(0, 0), (1, 1), (2, 2)]) if function is over_with else None)

    def test_it_is_the_askers_own(self):
        for function, pair in ((over_with, (0, 0)), (over_without, (3, 3))):
            kept = copy.deepcopy(function(BRIDGE, ROOM, pair, *AT))
            function(BRIDGE, ROOM, pair, *AT)[1].clear()
            self.assertEqual(function(BRIDGE, ROOM, pair, *AT), kept)


if __name__ == "__main__":
    unittest.main()
