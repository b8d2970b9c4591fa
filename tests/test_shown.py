"""Sharings that show that all or none of the greatest joinings have a pair (16; 2 and 3 as far as they speak)."""

import copy
import unittest

from ringorders.errors import NoPair
from ringorders.shown import shown, shows
from ringorders.sure import sure_words
from tests.helper import (LINES, alike, chances, clash_by_words, each_way, fitting_by_words, greatest_by_words,
                          is_pair_by_words, is_sharing_by_words, odd_things, otherwise, random_log, small_case)

BRIDGE = ((0, "port", 1), (0, "port", 1), (1, "port", 1), (2, "up", "dora"))
ROOM = ((5, "port", 1), (6, "port", 1), (7, "up", "dora"))
# At 5, with a lag of 1, there fit (0, 0) (0, 1) (1, 0) (1, 1) (2, 1) and (3, 2): three go together at most.
ALL = [[(0, 0), (0, 1), (1, 0)], [(1, 1), (2, 1)]]
NONE = [[(3, 2)]]
TEXTS = ("some", "", "All", "ALL", "all ", " none", "allnone", "a", "None", "True", "x" * 4000)


def shows_by_words(bridge, room, pair, word, thing, d, lag):
    """Whether a thing shows a word of a pair that fits, by the document's words."""
    many = len(greatest_by_words(bridge, room, d, lag)[0])
    others = [other for other in fitting_by_words(bridge, room, lag, d, d) if other != pair]
    if word == "none":
        others = [other for other in others if clash_by_words(bridge, room, pair, other, lag, d, d) is None]
    elif word != "all":
        return False
    return is_sharing_by_words(bridge, room, others, thing, lag, d, d) and len(thing) <= many - (1 if word == "all" else 2)


class Shown(unittest.TestCase):
    def check(self, bridge, room, pair, d, lag, word):
        told = shown(bridge, room, pair, d, lag)
        if word == "some":
            self.assertIsNone(told)
            return
        self.assertTrue(shows_by_words(bridge, room, pair, word, told, d, lag), told)
        self.assertIs(shows(bridge, room, pair, word, told, d, lag), True)
        self.assertIs(shows(bridge, room, pair, "none" if word == "all" else "all", told, d, lag), False)

    def test_ordinary(self):
        for pair in ((0, 0), (1, 0), (1, 1), (2, 1)):
            self.check(BRIDGE, ROOM, pair, 5, 1, "some")
        self.check(BRIDGE, ROOM, (3, 2), 5, 1, "all")
        self.check(BRIDGE, ROOM, (0, 1), 5, 1, "none")

    def test_the_only_pair(self):
        log = ((3, "up", "a"),)
        self.assertEqual(shown(log, log, (0, 0)), [])
        self.assertIs(shows(log, log, (0, 0), "all", []), True)
        self.assertIs(shows(log, log, (0, 0), "none", []), False)

    def test_against_a_search_through_all_choices(self):
        seen = []
        for chance in chances(100, 61):
            bridge, room, d, lag = small_case(chance)
            found = greatest_by_words(bridge, room, d, lag)
            for pair in fitting_by_words(bridge, room, lag, d, d):
                have = [pair in joined for joined in found]
                word = "all" if all(have) else "some" if any(have) else "none"
                self.check(bridge, room, pair, d, lag, word)
                seen.append(word)
        self.assertEqual(set(seen), {"all", "some", "none"})

    def test_great_logs(self):
        for chance in chances(2, 62):
            bridge, room = (random_log(chance, LINES, 40, 60, [0, 1]) for _ in range(2))
            for pair, word in sure_words(bridge, room, 0, 20):
                told = shown(bridge, room, pair, 0, 20)
                for text in ("all", "none"):
                    self.assertIs(shows(bridge, room, pair, text, told, 0, 20), text == word)

    def test_two_hundred_pairs_in_ordinary_time(self):
        bridge, room = ((0, "up", "a"),) * 40, ((0, "up", "a"),) * 5
        self.assertIsNone(shown(bridge, room, (20, 2)))
        for pair in ((36, 0), (0, 1), (39, 3)):
            self.assertIs(shows(bridge, room, pair, "none", shown(bridge, room, pair)), True)
        log = ((0, "up", "a"),) * 14
        self.assertIs(shows(log, log, (3, 3), "all", shown(log, log, (3, 3))), True)

    def test_bounds_of_the_differences(self):
        later = tuple((minute + 1440, line, what) for minute, line, what in BRIDGE)
        for bridge, room, d in ((BRIDGE, later, 1440), (later, BRIDGE, -1440)):
            self.check(bridge, room, (2, 2), d, 0, "all")
            self.check(bridge, room, (0, 1), d, 0, "none")
            with self.assertRaises(NoPair):
                shown(bridge, room, (2, 2), 0, 60)

    def test_no_pair_of_whatever_it_is(self):
        for thing in odd_things() + [(0, 2), (3, 0), (4, 0), (0, 3), (-1, 2), [3, 2], (3, 2, 0), ("3", "2"), (2, 0)]:
            if alike(thing, (0, 0)):
                continue
            with self.assertRaises(NoPair, msg=thing):
                shown(BRIDGE, ROOM, thing, 5, 1)
            with self.assertRaises(NoPair, msg=thing):
                shown((), (), thing)

    def test_left_out_and_by_name(self):
        bridge, room = ((5, "port", 1),), ((6, "port", 1),)
        with self.assertRaises(NoPair):
            shown(bridge, room, (0, 0))
        self.assertEqual(shown(bridge, room, (0, 0), 1), [])
        self.assertEqual(shown(bridge, room, (0, 0), lag=1), [])
        for told in each_way(shown, [BRIDGE, ROOM, (0, 1), 5, 1], ["bridge", "room", "pair", "d", "lag"]):
            self.assertEqual(told, NONE)

    def test_it_is_the_askers_own(self):
        told = shown(BRIDGE, ROOM, (3, 2), 5, 1)
        kept = copy.deepcopy(told)
        told[0].append(None)
        told.append(None)
        self.assertEqual(shown(BRIDGE, ROOM, (3, 2), 5, 1), kept)


class Shows(unittest.TestCase):
    def test_ordinary(self):
        self.assertIs(shows(BRIDGE, ROOM, (3, 2), "all", ALL, 5, 1), True)
        self.assertIs(shows(BRIDGE, ROOM, (3, 2), "none", ALL, 5, 1), False)
        self.assertIs(shows(BRIDGE, ROOM, (0, 1), "none", NONE, 5, 1), True)
        self.assertIs(shows(BRIDGE, ROOM, (0, 1), "all", NONE, 5, 1), False)

    def test_fewer_by_one_and_by_two(self):
        # Of (1, 0) some have it: the others need three crowds, those that don't clash with it two.
        others = [[(0, 0), (0, 1)], [(1, 1), (2, 1)], [(3, 2)]]
        self.assertIs(shows(BRIDGE, ROOM, (1, 0), "all", others, 5, 1), False)
        self.assertIs(shows(BRIDGE, ROOM, (1, 0), "none", [[(2, 1)], [(3, 2)]], 5, 1), False)
        self.assertIs(shows(BRIDGE, ROOM, (3, 2), "all", [ALL[0], ALL[1][:1], ALL[1][1:]], 5, 1), False)
        log = ((0, "up", "a"),) * 3
        self.assertIs(shows(log, log, (0, 1), "none", [[(1, 2), (2, 2)]]), True)
        self.assertIs(shows(log, log, (0, 1), "none", [[(1, 2)], [(2, 2)]]), False)
        self.assertIs(shows(log, log, (0, 2), "none", []), True)

    def test_the_pair_itself_is_not_shared(self):
        self.assertIs(shows(BRIDGE, ROOM, (3, 2), "all", ALL + [[(3, 2)]], 5, 1), False)
        log = ((0, "up", "a"),) * 3
        self.assertIs(shows(log, log, (0, 2), "none", [[(0, 2)]]), False)
        self.assertIs(shows(log, log, (0, 1), "none", [[(0, 1)]]), False)

    def test_each_other_text_and_word(self):
        for word in TEXTS + (None, True, 0, [], ("all",), ["all"], {"all": 1}, {}, 10 ** 99):
            self.assertIs(shows(BRIDGE, ROOM, (3, 2), word, ALL, 5, 1), False, word)
            self.assertIs(shows(BRIDGE, ROOM, (0, 1), word, NONE, 5, 1), False, word)

    def test_no_pair_goes_ahead_of_false(self):
        for word in ("all", "none") + TEXTS + (None, 1, []):
            for thing in (ALL, NONE, None, [], {}, 7):
                for pair in ((2, 0), (3, 0), (9, 9), None, [3, 2], (True, 1), (3, 2, 1), "32", 0, {}):
                    with self.assertRaises(NoPair):
                        shows(BRIDGE, ROOM, pair, word, thing, 5, 1)
        for thing in odd_things():
            if not alike(thing, (0, 0)):
                with self.assertRaises(NoPair):
                    shows(BRIDGE, ROOM, thing, "all", ALL, 5, 1)

    def test_no_pair_with_one_thing_otherwise(self):
        for thing in otherwise((3, 2)):
            if is_pair_by_words(BRIDGE, ROOM, thing) and thing in fitting_by_words(BRIDGE, ROOM, 1, 5, 5):
                self.assertIs(shows(BRIDGE, ROOM, thing, "all", ALL, 5, 1), thing == (3, 2))
            else:
                for function, more in ((shown, ()), (shows, ("all", ALL))):
                    with self.assertRaises(NoPair, msg=thing):
                        function(BRIDGE, ROOM, thing, *more, 5, 1)

    def test_whatever_it_is(self):
        for thing in odd_things():
            for pair, word in (((3, 2), "all"), ((3, 2), "none"), ((0, 1), "none"), ((0, 1), "all"), ((0, 0), "all")):
                self.assertIs(shows(BRIDGE, ROOM, pair, word, thing, 5, 1), False, thing)

    def test_one_thing_otherwise(self):
        for pair, word, right in (((3, 2), "all", ALL), ((0, 1), "none", NONE)):
            for thing in otherwise(right):
                wanted = shows_by_words(BRIDGE, ROOM, pair, word, thing, 5, 1)
                self.assertIs(shows(BRIDGE, ROOM, pair, word, thing, 5, 1), wanted, thing)
                self.assertTrue(not wanted or sorted(thing) == sorted(right))

    def test_truths_for_numbers(self):
        log = ((0, "up", "a"),) * 2
        self.assertIs(shows(log, log, (0, 0), "all", [[(0, 1), (1, 0), (1, 1)]]), True)
        self.assertIs(shows(log, log, (0, 0), "all", [[(0, True), (1, 0), (1, 1)]]), False)
        self.assertIs(shows(log, log, (0, 0), "all", [[(0, 1), (1, False), (1, 1)]]), False)
        log = log + ((1, "up", "a"),)
        self.assertIs(shows(log, log, (2, 2), "all", [[(0, 0), (0, 1), (1, 0)], [(1, 1)]]), True)
        for thing in ([[(False, 0), (0, 1), (1, 0)], [(1, 1)]], [[(0, 0), (0, True), (1, 0)], [(1, 1)]],
                      [[(0, 0), (0, 1), (True, False)], [(1, 1)]], [[(0, 0), (0, 1), (1, 0)], [(True, True)]]):
            self.assertIs(shows(log, log, (2, 2), "all", thing), False, thing)

    def test_by_chance(self):
        seen = []
        for chance in chances(40, 63):
            bridge, room, d, lag = small_case(chance, 4)
            for pair in fitting_by_words(bridge, room, lag, d, d):
                told = shown(bridge, room, pair, d, lag)
                for thing in chance.sample(list(otherwise(told or [[pair]])), 6):
                    for word in ("all", "none"):
                        wanted = shows_by_words(bridge, room, pair, word, thing, d, lag)
                        self.assertIs(shows(bridge, room, pair, word, thing, d, lag), wanted, thing)
                        seen.append((word, wanted))
        self.assertEqual(len(set(seen)), 4)

    def test_left_out_and_by_name(self):
        bridge, room = ((5, "port", 1),), ((6, "port", 1),)
        with self.assertRaises(NoPair):
            shows(bridge, room, (0, 0), "all", [])
        self.assertIs(shows(bridge, room, (0, 0), "all", [], 1), True)
        self.assertIs(shows(bridge, room, (0, 0), "all", [], lag=1), True)
        names = ["bridge", "room", "pair", "word", "thing", "d", "lag"]
        for told in each_way(shows, [BRIDGE, ROOM, (3, 2), "all", ALL, 5, 1], names):
            self.assertIs(told, True)

    def test_nothing_is_changed(self):
        for thing in odd_things() + [ALL, NONE, ALL[::-1]]:
            kept = copy.deepcopy(thing)
            for word in ("all", "none", "some"):
                shows(BRIDGE, ROOM, (3, 2), word, thing, 5, 1)
                shows(BRIDGE, ROOM, (0, 1), word, thing, 5, 1)
            self.assertEqual(thing, kept)


if __name__ == "__main__":
    unittest.main()
