"""The greatest joining of some pairs, and sharings into crowds (12; 11 and 3 as far as they speak of them)."""

import copy
import itertools
import unittest

from ringorders.pairs import pairs_at
from ringorders.sharings import greatest, is_sharing, sharing
from tests.helper import LINES, chances, clash_by_words, each_way, odd_things, pairs_by_words, random_log

# Three rings alike heard as three, two words alike heard once.
BRIDGE = ((0, "port", 1), (0, "port", 1), (0, "port", 1), (1, "down", "a"), (1, "down", "a"))
ROOM = ((0, "port", 1), (0, "port", 1), (0, "port", 1), (1, "down", "a"))
PAIRS = [(b, r) for b in range(3) for r in range(3)] + [(3, 3), (4, 3)]
SHARING = [[(0, 0), (0, 1), (0, 2), (1, 0), (2, 0)], [(1, 1), (1, 2), (2, 1)], [(2, 2)], [(3, 3), (4, 3)]]
SAME = ((0, "port", 1),) * 20


def joins(bridge, room, pairs, thing, d, lag):
    """Whether a thing is a joining of some of these pairs, by the document's words."""
    rising = isinstance(thing, list) and thing == sorted(set(thing)) and set(thing) <= set(pairs)
    return rising and not any(clash_by_words(bridge, room, one, other, lag, d, d)
                              for one, other in itertools.combinations(thing, 2))


def most_of_all_choices(bridge, room, pairs, d, lag):
    """How many of these pairs can be true together at most, by a search through all choices."""
    clashing = {(one, other) for one, other in itertools.combinations(pairs, 2)
                if clash_by_words(bridge, room, one, other, lag, d, d)}
    for many in range(len(pairs), 0, -1):
        for choice in itertools.combinations(pairs, many):
            if not any(two in clashing for two in itertools.combinations(choice, 2)):
                return many
    return 0


def shares(bridge, room, pairs, thing, lag, low, high):
    """Whether lists of pairs are a sharing, by the document's words."""
    if sorted(pair for crowd in thing for pair in crowd) != pairs:
        return False
    for crowd in thing:
        if not crowd or crowd != sorted(set(crowd)):
            return False
        if any(clash_by_words(bridge, room, one, other, lag, low, high) is None
               for one, other in itertools.combinations(crowd, 2)):
            return False
    return True


def some_of(chance, pairs):
    """Some of these pairs, by chance."""
    return sorted(chance.sample(pairs, chance.randint(0, len(pairs))))


def random_case(chance, lines, most, latest, widest):
    """Two logs, a lag, a stretch of differences and some of the logs' pairs, by chance."""
    bridge, room = random_log(chance, lines, most, latest, [1]), random_log(chance, lines, most, latest, [1])
    lag, low = chance.randint(0, 4), chance.randint(-latest, latest // 2)
    pairs = some_of(chance, pairs_by_words(bridge, room))
    return bridge, room, pairs, lag, low, low + chance.randint(0, widest)


def random_sharing(chance, pairs, many):
    """These pairs laid into lists, by chance."""
    crowds = [[] for _ in range(many)]
    for pair in pairs:
        chance.choice(crowds).append(pair)
    return [crowd for crowd in crowds if crowd]


def clashing_crowds(chance, bridge, room, pairs, lag, low, high):
    """These pairs, one behind the other, each put by chance in one of the crowds with all pairs of which it clashes."""
    crowds = []
    for pair in chance.sample(pairs, len(pairs)):
        fitting = [crowd for crowd in crowds
                   if all(clash_by_words(bridge, room, pair, other, lag, low, high) for other in crowd)]
        if fitting:
            chance.choice(fitting).append(pair)
        else:
            crowds.append([pair])
    return [sorted(crowd) for crowd in crowds]


class Greatest(unittest.TestCase):
    def test_ordinary(self):
        told = greatest(BRIDGE, ROOM, PAIRS)
        self.assertEqual(len(told), 4)
        self.assertTrue(joins(BRIDGE, ROOM, PAIRS, told, 0, 0))
        self.assertEqual(told[:3], [(0, 0), (1, 1), (2, 2)])

    def test_of_these_pairs_alone(self):
        self.assertEqual(greatest(BRIDGE, ROOM, [(0, 2), (1, 1), (2, 0)])[1:], [])
        self.assertEqual(greatest(BRIDGE, ROOM, [(0, 1), (1, 0), (1, 2)]), [(0, 1), (1, 2)])
        self.assertEqual(greatest(BRIDGE, ROOM, [(4, 3)]), [(4, 3)])
        self.assertEqual(greatest(BRIDGE, ROOM, [(0, 2), (1, 0), (2, 1)]), [(1, 0), (2, 1)])

    def test_the_first_ones_are_not_always_the_best(self):
        bridge = room = ((0, "port", 1),) * 4
        self.assertEqual(greatest(bridge, room, [(0, 3), (1, 0), (2, 1), (3, 2)]), [(1, 0), (2, 1), (3, 2)])
        self.assertEqual(greatest(bridge, room, [(0, 1), (1, 2), (2, 3), (3, 0)]), [(0, 1), (1, 2), (2, 3)])

    def test_lines_cross_freely(self):
        bridge = ((0, "port", 1), (0, "star", 1), (0, "aport", 1), (0, "astar", 1), (0, "down", "a"), (0, "up", "a"))
        room = tuple(reversed(bridge))
        pairs = pairs_at(bridge, room)
        self.assertEqual(pairs, [(k, 5 - k) for k in range(6)])
        self.assertEqual(greatest(bridge, room, pairs), pairs)
        self.assertEqual(len(sharing(bridge, room, pairs)), 6)

    def test_it_rises_over_lines_that_take_turns(self):
        log = tuple((k, LINES[k % 4], 0) for k in range(12))
        pairs = pairs_at(log, log)
        self.assertEqual(greatest(log, log, pairs), [(k, k) for k in range(12)])

    def test_at_a_difference(self):
        room = tuple((minute + 1440, line, what) for minute, line, what in ROOM)
        self.assertEqual(len(greatest(BRIDGE, room, PAIRS, 1440)), 4)
        self.assertEqual(len(greatest(room, BRIDGE, [(r, b) for b, r in PAIRS[:9]], -1440, 60)), 3)

    def test_no_pairs(self):
        self.assertEqual(greatest(BRIDGE, ROOM, []), [])
        self.assertEqual(greatest((), (), []), [])

    def test_by_name(self):
        names = ["bridge", "room", "pairs", "d", "lag"]
        for told in each_way(greatest, [BRIDGE, ROOM, [(0, 1), (1, 0), (1, 2)], 0, 0], names):
            self.assertEqual(told, [(0, 1), (1, 2)])

    def test_nothing_is_changed_and_what_is_told_is_the_askers_own(self):
        pairs = list(PAIRS)
        told = greatest(BRIDGE, ROOM, pairs)
        kept = list(told)
        told.append(None)
        self.assertEqual(pairs, PAIRS)
        self.assertEqual(greatest(BRIDGE, ROOM, pairs), kept)
        one = [(0, 0)]
        greatest(BRIDGE, ROOM, one).append(None)
        self.assertEqual(one, [(0, 0)])


class Sharing(unittest.TestCase):
    def test_ordinary(self):
        told = sharing(BRIDGE, ROOM, PAIRS)
        self.assertEqual(len(told), 4)
        self.assertTrue(shares(BRIDGE, ROOM, PAIRS, told, 0, 0, 0))
        self.assertIs(is_sharing(BRIDGE, ROOM, PAIRS, told), True)

    def test_of_these_pairs_alone(self):
        self.assertEqual(sharing(BRIDGE, ROOM, [(0, 2), (1, 1), (2, 0)]), [[(0, 2), (1, 1), (2, 0)]])
        self.assertEqual(sorted(sharing(BRIDGE, ROOM, [(0, 0), (1, 1)])), [[(0, 0)], [(1, 1)]])
        self.assertEqual(sharing(BRIDGE, ROOM, [(4, 3)]), [[(4, 3)]])

    def test_no_pairs(self):
        self.assertEqual(sharing(BRIDGE, ROOM, []), [])
        self.assertEqual(sharing((), (), [], 5, 5), [])

    def test_by_name(self):
        names = ["bridge", "room", "pairs", "d", "lag"]
        for told in each_way(sharing, [BRIDGE, ROOM, [(0, 1), (1, 0)], 0, 0], names):
            self.assertEqual(told, [[(0, 1), (1, 0)]])

    def test_nothing_is_changed_and_what_is_told_is_the_askers_own(self):
        pairs = list(PAIRS)
        told = sharing(BRIDGE, ROOM, pairs)
        kept = copy.deepcopy(told)
        told[0].append((9, 9))
        told.append([])
        self.assertEqual(pairs, PAIRS)
        self.assertEqual(sharing(BRIDGE, ROOM, pairs), kept)

    def test_kinds(self):
        told = sharing(BRIDGE, ROOM, PAIRS)
        self.assertIs(type(told), list)
        self.assertTrue(all(type(crowd) is list for crowd in told))
        self.assertTrue(all(type(pair) is tuple for crowd in told for pair in crowd))


class BothAgree(unittest.TestCase):
    def test_against_a_search_through_all_choices(self):
        counts = set()
        for chance in chances(250, 9):
            lines = chance.choice([("port",), ("port", "up"), LINES])
            bridge, room = random_log(chance, lines, 5, 4, [1]), random_log(chance, lines, 5, 4, [1])
            d, lag = chance.randint(-2, 2), chance.randint(0, 3)
            pairs = pairs_at(bridge, room, d, lag)
            for some in (pairs[:9], some_of(chance, pairs)[:9]):
                joined, crowds = greatest(bridge, room, some, d, lag), sharing(bridge, room, some, d, lag)
                self.assertTrue(joins(bridge, room, some, joined, d, lag))
                self.assertEqual(len(joined), most_of_all_choices(bridge, room, some, d, lag))
                self.assertTrue(shares(bridge, room, some, crowds, lag, d, d))
                self.assertEqual(len(crowds), len(joined))
                self.assertIs(is_sharing(bridge, room, some, crowds, lag, d, d), True)
                counts.add(len(joined))
        self.assertTrue({0, 1, 2, 3, 4} <= counts)

    def test_on_great_logs_a_joining_has_one_pair_of_each_crowd(self):
        for chance in chances(12, 10):
            bridge, room = random_log(chance, ("port", "star", "up"), 40, 60), random_log(chance, LINES, 40, 60)
            d, lag = chance.randint(-9, 9), chance.choice([0, 20, 60])
            pairs = pairs_at(bridge, room, d, lag)
            joined, crowds = greatest(bridge, room, pairs, d, lag), sharing(bridge, room, pairs, d, lag)
            self.assertTrue(joins(bridge, room, pairs, joined, d, lag))
            self.assertEqual(len(crowds), len(joined))
            self.assertTrue(all(len(set(crowd) & set(joined)) == 1 for crowd in crowds))
            self.assertIs(is_sharing(bridge, room, pairs, crowds, lag, d, d), True)

    def test_four_hundred_pairs(self):
        pairs = pairs_at(SAME, SAME)
        self.assertEqual(len(pairs), 400)
        self.assertEqual(greatest(SAME, SAME, pairs), [(k, k) for k in range(20)])
        crowds = sharing(SAME, SAME, pairs)
        self.assertEqual(len(crowds), 20)
        self.assertIs(is_sharing(SAME, SAME, pairs, crowds), True)

    def test_four_hundred_pairs_on_four_lines(self):
        log = tuple((0, line, 1) for line in LINES if line not in ("down", "up") for _ in range(10))
        pairs = pairs_at(log, log)
        self.assertEqual(len(pairs), 400)
        self.assertEqual(greatest(log, log, pairs), [(k, k) for k in range(40)])
        crowds = sharing(log, log, pairs)
        self.assertEqual(len(crowds), 40)
        self.assertIs(is_sharing(log, log, pairs, crowds), True)


class IsSharing(unittest.TestCase):
    def test_ordinary(self):
        self.assertIs(is_sharing(BRIDGE, ROOM, PAIRS, SHARING), True)
        self.assertIs(is_sharing(BRIDGE, ROOM, PAIRS, list(reversed(SHARING))), True)
        self.assertIs(is_sharing(BRIDGE, ROOM, PAIRS, [[pair] for pair in PAIRS]), True)
        self.assertIs(is_sharing(BRIDGE, ROOM, PAIRS[:1], [[(0, 0)]]), True)

    def test_no_pairs(self):
        self.assertIs(is_sharing(BRIDGE, ROOM, [], []), True)
        self.assertIs(is_sharing((), (), [], []), True)
        for thing in ([[]], [[], []], (), None, {}, "", 0, False, [[(0, 0)]]):
            self.assertIs(is_sharing(BRIDGE, ROOM, [], thing), False, thing)

    def test_a_pair_is_wanting_twice_or_strange(self):
        for crowds in ([[(0, 0)]], [[(0, 0)], [(1, 1)], [(1, 1)]], [[(0, 0)], [(1, 1)], [(2, 2)]], [], [[(0, 0)] * 2],
                       [[(0, 0)], [(2, 2)]], [[(0, 0)], [(0, 0)]], [[(0, 0)], [(1, 1), (1, 2)]],
                       [[(0, 0)], [(1, 1), (1, 1)]], [[(0, 0)], [(1, 3)]]):
            self.assertIs(is_sharing(BRIDGE, ROOM, [(0, 0), (1, 1)], crowds), False, crowds)

    def test_a_crowd_without_pairs(self):
        self.assertIs(is_sharing(BRIDGE, ROOM, PAIRS, SHARING + [[]]), False)
        self.assertIs(is_sharing(BRIDGE, ROOM, PAIRS, [[]] + SHARING), False)

    def test_a_crowd_that_rises_not(self):
        pairs = [(0, 0), (0, 1)]
        self.assertIs(is_sharing(BRIDGE, ROOM, pairs, [[(0, 0), (0, 1)]]), True)
        self.assertIs(is_sharing(BRIDGE, ROOM, pairs, [[(0, 1), (0, 0)]]), False)
        self.assertIs(is_sharing(BRIDGE, ROOM, pairs, [[(0, 1)], [(0, 0)]]), True)

    def test_two_that_do_not_clash(self):
        self.assertIs(is_sharing(BRIDGE, ROOM, [(0, 0), (1, 1)], [[(0, 0), (1, 1)]]), False)
        self.assertIs(is_sharing(BRIDGE, ROOM, [(0, 1), (1, 0)], [[(0, 1), (1, 0)]]), True)
        self.assertIs(is_sharing(BRIDGE, ROOM, [(0, 0), (3, 3)], [[(0, 0), (3, 3)]], 1, 0, 0), False)
        self.assertIs(is_sharing(BRIDGE, ROOM, [(0, 2), (1, 1), (2, 2)], [[(0, 2), (1, 1), (2, 2)]]), False)
        self.assertIs(is_sharing(BRIDGE, ROOM, [(0, 1), (1, 0), (1, 2)], [[(0, 1), (1, 0), (1, 2)]]), False)

    def test_in_a_stretch(self):
        bridge, room = ((0, "port", 1), (10, "star", 1)), ((4, "port", 1), (15, "star", 1))
        pairs, crowd, apart = [(0, 0), (1, 1)], [[(0, 0), (1, 1)]], [[(0, 0)], [(1, 1)]]
        self.assertIs(is_sharing(bridge, room, pairs, crowd, 0, -9, 9), True)
        self.assertIs(is_sharing(bridge, room, pairs, crowd, 1, -9, 9), False)
        self.assertIs(is_sharing(bridge, room, pairs, crowd, 1, 4, 4), False)
        self.assertIs(is_sharing(bridge, room, pairs, crowd, 1, 5, 9), True)
        self.assertIs(is_sharing(bridge, room, pairs, crowd, 1, -9, 3), True)
        for low, high in ((-9, 9), (4, 4), (5, 9), (1440, 1440), (-1440, -1440)):
            self.assertIs(is_sharing(bridge, room, pairs, apart, 1, low, high), True)

    def test_pairs_that_fit_none_of_the_stretch(self):
        bridge, room = ((0, "port", 1), (1, "port", 1), (2, "up", "a")), ((4, "port", 1), (5, "port", 1), (9, "up", "a"))
        pairs = pairs_by_words(bridge, room)
        self.assertIs(is_sharing(bridge, room, pairs, [pairs], 0, -1440, 1), True)
        self.assertIs(is_sharing(bridge, room, pairs, [pairs], 0, 9, 1440), True)
        self.assertIs(is_sharing(bridge, room, pairs, [pairs], 0, 4, 4), False)
        self.assertIs(is_sharing(bridge, room, pairs, [pairs[1:]], 0, 9, 1440), False)

    def test_left_out_and_by_name(self):
        bridge, room = ((0, "port", 1), (10, "star", 1)), ((4, "port", 1), (15, "star", 1))
        pairs, crowd = [(0, 0), (1, 1)], [[(0, 0), (1, 1)]]
        self.assertIs(is_sharing(bridge, room, pairs, crowd), True)
        self.assertIs(is_sharing(bridge, room, pairs, crowd, lag=5), False)
        self.assertIs(is_sharing(bridge, room, pairs, crowd, lag=1, high=4), False)
        self.assertIs(is_sharing(bridge, room, pairs, crowd, lag=1, high=3), True)
        self.assertIs(is_sharing(bridge, room, pairs, crowd, low=-9, lag=5), False)
        names = ["bridge", "room", "pairs", "thing", "lag", "low", "high"]
        for told in each_way(is_sharing, [bridge, room, pairs, crowd, 1, 5, 9], names):
            self.assertIs(told, True)
        for told in each_way(is_sharing, [bridge, room, pairs, crowd, 1, 4, 9], names):
            self.assertIs(told, False)

    def test_whatever_it_is(self):
        for thing in odd_things():
            self.assertIs(is_sharing(BRIDGE, ROOM, PAIRS, thing), False, thing)
            self.assertIs(is_sharing(BRIDGE, ROOM, [], thing), thing == [], thing)

    def test_tuples_for_lists_and_lists_for_tuples(self):
        self.assertIs(is_sharing(BRIDGE, ROOM, PAIRS, tuple(SHARING)), False)
        self.assertIs(is_sharing(BRIDGE, ROOM, PAIRS, dict(enumerate(SHARING))), False)
        for at, crowd in enumerate(SHARING):
            for other in (tuple(crowd), dict.fromkeys(crowd, 0), [list(pair) for pair in crowd], crowd[0], None):
                thing = SHARING[:at] + [other] + SHARING[at + 1:]
                self.assertIs(is_sharing(BRIDGE, ROOM, PAIRS, thing), False, thing)

    def test_one_thing_otherwise(self):
        for at, crowd in enumerate(SHARING):
            for place, pair in enumerate(crowd):
                others = odd_things() + [list(pair), pair + (0,), pair[:1], (pair,), (pair[0], None), (None, pair[1]),
                                         (str(pair[0]), pair[1]), (pair[0], [pair[1]]), (pair[0], -1), (-1, pair[1]),
                                         (pair[0], 10 ** 99), (10 ** 99, pair[1]), (pair[0] - 5, pair[1]),
                                         (pair[0], pair[1] - 4), (pair[1], pair[0] + 5)]
                for other in others:
                    if other == pair:
                        continue
                    changed = crowd[:place] + [other] + crowd[place + 1:]
                    thing = SHARING[:at] + [changed] + SHARING[at + 1:]
                    self.assertIs(is_sharing(BRIDGE, ROOM, PAIRS, thing), False, thing)

    def test_truths_for_numbers(self):
        for at, crowd in enumerate(SHARING):
            for place, pair in enumerate(crowd):
                for other in ((bool(pair[0]), pair[1]), (pair[0], bool(pair[1])), (bool(pair[0]), bool(pair[1]))):
                    changed = crowd[:place] + [other] + crowd[place + 1:]
                    thing = SHARING[:at] + [changed] + SHARING[at + 1:]
                    self.assertIs(is_sharing(BRIDGE, ROOM, PAIRS, thing), False, thing)

    def test_nothing_is_changed(self):
        for thing in odd_things() + [SHARING, list(reversed(SHARING)), [list(reversed(SHARING[0]))] + SHARING[1:]]:
            pairs, kept = list(PAIRS), copy.deepcopy(thing)
            is_sharing(BRIDGE, ROOM, pairs, thing)
            self.assertEqual((pairs, thing), (PAIRS, kept))

    def test_by_chance(self):
        told = []
        for chance in chances(600, 11):
            lines = ("port", "port", "star", "up")
            bridge, room, pairs, lag, low, high = random_case(chance, lines, 4, 6, 3)
            crowds = random_sharing(chance, pairs, chance.randint(1, 3))
            wanted = shares(bridge, room, pairs, crowds, lag, low, high)
            self.assertIs(is_sharing(bridge, room, pairs, crowds, lag, low, high), wanted)
            told.append((wanted, len(pairs) > 3))
        self.assertTrue({(True, True), (True, False), (False, True), (False, False)} <= set(told))

    def test_of_spans_that_meet_or_not(self):
        # The spans rise from pair to pair, or fall, or take turns; each crowd is of pairs in one order on one line.
        for minutes in ((0, 20, 40), (40, 60, 80), (0, 40, 20), (20, 0, 40), (40, 0, 20), (20, 40, 0)):
            lines = (("port", 1), ("star", 1), ("aport", 1))
            bridge = tuple((100,) + line for line in lines)
            order = sorted(range(3), key=lambda place: minutes[place])
            room = tuple((100 + minutes[place],) + lines[place] for place in order)
            pairs = pairs_by_words(bridge, room)
            for lag in (0, 9, 19, 20, 21, 39, 40, 41, 60):
                wanted = shares(bridge, room, pairs, [pairs], lag, -200, 200)
                self.assertIs(is_sharing(bridge, room, pairs, [pairs], lag, -200, 200), wanted)

    def test_by_chance_of_crowds_that_clash(self):
        told = []
        for chance in chances(300, 12):
            lines = ("port", "star", "up", "down")
            bridge, room, pairs, lag, low, high = random_case(chance, lines, 5, 12, 16)
            crowds = clashing_crowds(chance, bridge, room, pairs, lag, low, high)
            self.assertIs(is_sharing(bridge, room, pairs, crowds, lag, low, high), True)
            if len(crowds) > 1:
                moved = crowds[1].pop()
                crowds[0] = sorted(crowds[0] + [moved])
                crowds = [crowd for crowd in crowds if crowd]
                wanted = shares(bridge, room, pairs, crowds, lag, low, high)
                self.assertIs(is_sharing(bridge, room, pairs, crowds, lag, low, high), wanted)
                told.append(wanted)
        self.assertEqual(set(told), {True, False})

    def test_a_crowd_of_sixteen_hundred(self):
        bridge = tuple((40 * number, "port", 1) for number in range(40))
        room = tuple((number, "port", 1) for number in range(40))
        pairs = pairs_by_words(bridge, room)
        self.assertEqual(len(pairs), 1600)
        self.assertIs(is_sharing(bridge, room, pairs, [pairs], 0, -1440, 1440), True)
        self.assertIs(is_sharing(bridge, room, pairs, [pairs], 1, 0, 1440), True)
        self.assertIs(is_sharing(bridge, room, pairs, [pairs], 1, -1440, 1440), False)


if __name__ == "__main__":
    unittest.main()
