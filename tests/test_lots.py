"""Missed and strange rows, why these are strange, and the lot (18; 2 and 3 as far as they speak of them)."""

import copy
import unittest

from ringorders.joinings import joining
from ringorders.lots import lot, missed, strange
from tests.helper import LINES, chances, each_way, greatest_by_words, random_log, small_case

SENT_FROM = {"port": "bridge", "star": "bridge", "down": "bridge", "aport": "room", "astar": "room", "up": "room"}
OTHER = {"port": "star", "star": "port", "aport": "astar", "astar": "aport"}

# Rung on port and heard on star; rung once and heard twice; an answer that was missed; one that came from nowhere.
BRIDGE = ((0, "port", 2), (10, "star", 1), (15, "astar", 3), (20, "down", "dora"))
ROOM = ((5, "star", 2), (15, "star", 1), (16, "star", 1), (17, "astar", 1), (30, "up", "eva"))
JOINED = [(1, 1)]
STRANGE = [("bridge", 2, "unsent"), ("room", 0, "crossed"), ("room", 2, "doubled")]


def missed_by_words(bridge, room, joined):
    """The rows that were sent and are in no pair, by the document's words."""
    told = [("bridge", number) for number, row in enumerate(bridge)
            if SENT_FROM[row[1]] == "bridge" and not any(number == b for b, _ in joined)]
    return told + [("room", number) for number, row in enumerate(room)
                   if SENT_FROM[row[1]] == "room" and not any(number == r for _, r in joined)]


def why_by_words(bridge, room, joined, house, number, d, lag):
    """Why a row is strange, by the document's words."""
    log = bridge if house == "bridge" else room
    minute, line, what = log[number]
    for earlier in reversed(range(number)):
        if log[earlier][1] == line:
            if log[earlier][2] == what and minute - log[earlier][0] <= lag:
                return "doubled"
            break
    if line in OTHER:
        for sender, lost in missed_by_words(bridge, room, joined):
            sent, lost_line, lost_what = (bridge if sender == "bridge" else room)[lost]
            late = minute - d - sent if house == "room" else minute - (sent - d)
            if lost_line == OTHER[line] and lost_what == what and 0 <= late <= lag:
                return "crossed"
    return "unsent"


def strange_by_words(bridge, room, joined, d, lag):
    """The rows that came and are in no pair, each with why, by the document's words."""
    rows = [("bridge", number) for number, row in enumerate(bridge)
            if SENT_FROM[row[1]] == "room" and not any(number == b for b, _ in joined)]
    rows += [("room", number) for number, row in enumerate(room)
             if SENT_FROM[row[1]] == "bridge" and not any(number == r for _, r in joined)]
    return [(house, number, why_by_words(bridge, room, joined, house, number, d, lag)) for house, number in rows]


class Missed(unittest.TestCase):
    def test_ordinary(self):
        self.assertEqual(missed(BRIDGE, ROOM, JOINED), [("bridge", 0), ("bridge", 3), ("room", 3), ("room", 4)])

    def test_joinings_without_pairs(self):
        self.assertEqual(missed(BRIDGE, ROOM, []), [("bridge", 0), ("bridge", 1), ("bridge", 3), ("room", 3), ("room", 4)])

    def test_none_is_missed(self):
        log = tuple((0, line, "a" if line in ("up", "down") else 1) for line in LINES)
        self.assertEqual(missed(log, log, [(k, k) for k in range(6)]), [])
        self.assertEqual(strange(log, log, [(k, k) for k in range(6)]), [])
        self.assertEqual(lot(log, log, [(k, k) for k in range(6)]), 0)

    def test_by_the_numbers_of_each_house(self):
        log = ((0, "port", 1), (0, "port", 1), (0, "port", 1))
        self.assertEqual(missed(log, log, [(1, 2)]), [("bridge", 0), ("bridge", 2)])
        self.assertEqual(missed(log, log, [(2, 1)]), [("bridge", 0), ("bridge", 1)])
        log = ((0, "up", "a"),) * 3
        self.assertEqual(missed(log, log, [(1, 2)]), [("room", 0), ("room", 1)])

    def test_no_rows(self):
        self.assertEqual(missed((), (), []), [])
        self.assertEqual(missed(BRIDGE, (), []), [("bridge", 0), ("bridge", 1), ("bridge", 3)])
        self.assertEqual(missed((), ROOM, []), [("room", 3), ("room", 4)])

    def test_forty_rows(self):
        log = ((0, "up", "a"),) * 40
        self.assertEqual(missed(log, log, [(0, 39)]), [("room", number) for number in range(39)])
        self.assertEqual(missed(log, (), []), [])

    def test_by_name(self):
        for told in each_way(missed, [BRIDGE, ROOM, JOINED], ["bridge", "room", "joining"]):
            self.assertEqual(told, [("bridge", 0), ("bridge", 3), ("room", 3), ("room", 4)])


class Strange(unittest.TestCase):
    def test_ordinary(self):
        self.assertEqual(strange(BRIDGE, ROOM, JOINED, 5, 1), STRANGE)

    def test_unsent(self):
        self.assertEqual(strange((), ((0, "port", 1),), []), [("room", 0, "unsent")])
        self.assertEqual(strange(((0, "up", "a"),), (), []), [("bridge", 0, "unsent")])
        self.assertEqual(strange(((0, "aport", 1),), (), [], 0, 60), [("bridge", 0, "unsent")])

    def test_doubled_at_most_lag_earlier(self):
        for line, what in (("port", 1), ("star", 0), ("down", "a")):
            room = ((10, line, what), (17, line, what))
            for lag, why in ((6, "unsent"), (7, "doubled"), (8, "doubled"), (60, "doubled"), (0, "unsent")):
                self.assertEqual(strange((), room, [], 0, lag), [("room", 0, "unsent"), ("room", 1, why)])
        for line, what in (("aport", 1), ("astar", 0), ("up", "a")):
            bridge = ((10, line, what), (17, line, what))
            for lag, why in ((6, "unsent"), (7, "doubled")):
                self.assertEqual(strange(bridge, (), [], 0, lag), [("bridge", 0, "unsent"), ("bridge", 1, why)])

    def test_doubled_within_one_minute(self):
        room = ((10, "port", 1), (10, "port", 1))
        self.assertEqual(strange((), room, [], 0, 0), [("room", 0, "unsent"), ("room", 1, "doubled")])

    def test_doubled_whatever_became_of_the_one_ahead(self):
        bridge, room = ((0, "port", 1),), ((0, "port", 1), (1, "port", 1))
        self.assertEqual(strange(bridge, room, [(0, 0)], 0, 1), [("room", 1, "doubled")])
        self.assertEqual(strange(bridge, room, [(0, 1)], 1, 1), [("room", 0, "unsent")])
        self.assertEqual(strange(bridge, room, [], 0, 1), [("room", 0, "unsent"), ("room", 1, "doubled")])

    def test_doubled_of_the_last_one_on_this_line_alone(self):
        room = ((0, "port", 1), (1, "port", 2), (2, "port", 1))
        self.assertEqual(strange((), room, [], 0, 9)[2], ("room", 2, "unsent"))
        room = ((0, "port", 1), (1, "star", 2), (1, "up", "a"), (2, "port", 1))
        self.assertEqual(strange((), room, [], 0, 9)[-1], ("room", 3, "doubled"))
        room = ((0, "star", 1), (1, "port", 1))
        self.assertEqual(strange((), room, [], 0, 9)[-1], ("room", 1, "unsent"))

    def test_crossed_at_the_lags_end_and_one_beyond_it(self):
        for line, other in OTHER.items():
            for d in (-1440, -3, 0, 7, 1440):
                for lag in (0, 9, 60):
                    for late in (-1, 0, lag, lag + 1):
                        sent, came = ((5000, line, 3),), ((5000 + late, other, 3),)
                        if line in ("port", "star"):
                            bridge, room = sent, ((came[0][0] + d, other, 3),)
                        else:
                            bridge, room = came, ((sent[0][0] + d, line, 3),)
                        told = strange(bridge, room, [], d, lag)
                        house = "room" if line in ("port", "star") else "bridge"
                        self.assertEqual(told, [(house, 0, "crossed" if 0 <= late <= lag else "unsent")])

    def test_crossed_by_a_missed_one_alone(self):
        bridge, room = ((0, "port", 1),), ((0, "port", 1), (0, "star", 1))
        self.assertEqual(strange(bridge, room, [(0, 0)]), [("room", 1, "unsent")])
        self.assertEqual(strange(bridge, room, []), [("room", 0, "unsent"), ("room", 1, "crossed")])

    def test_crossed_one_for_several(self):
        bridge, room = ((0, "port", 1),), ((0, "star", 1), (5, "star", 2), (7, "star", 1))
        self.assertEqual(strange(bridge, room, [], 0, 9), [("room", 0, "crossed"), ("room", 1, "unsent"),
                                                           ("room", 2, "crossed")])

    def test_not_crossed_with_another_order_or_sort(self):
        self.assertEqual(strange(((0, "port", 2),), ((0, "star", -2),), [])[0][2], "unsent")
        self.assertEqual(strange(((0, "port", 2),), ((0, "port", 2),), [])[0][2], "unsent")
        self.assertEqual(strange(((0, "astar", 2), (0, "port", 2)), (), [])[0][2], "unsent")
        self.assertEqual(strange(((0, "astar", 2),), ((0, "astar", 2),), [])[0][2], "unsent")
        self.assertEqual(strange((), ((0, "aport", 2), (0, "star", 2)), [])[0][2], "unsent")
        self.assertEqual(strange(((0, "down", "a"), (0, "up", "a")), ((0, "up", "a"), (0, "down", "a")), []),
                         [("bridge", 1, "unsent"), ("room", 1, "unsent")])

    def test_doubled_goes_ahead_of_crossed(self):
        bridge, room = ((0, "port", 1), (0, "star", 1)), ((0, "star", 1), (0, "star", 1))
        self.assertEqual(strange(bridge, room, [(1, 0)]), [("room", 1, "doubled")])
        self.assertEqual(strange(bridge, room, [(1, 1)]), [("room", 0, "crossed")])

    def test_no_rows(self):
        self.assertEqual(strange((), (), []), [])
        self.assertEqual(strange(BRIDGE, (), [], 5, 1), [("bridge", 2, "unsent")])
        self.assertEqual(strange((), ROOM, [], 5, 1), [("room", 0, "unsent"), ("room", 1, "unsent"),
                                                       ("room", 2, "doubled")])

    def test_forty_rows(self):
        log = ((0, "port", 1),) * 40
        told = strange((), log, [])
        self.assertEqual(told, [("room", 0, "unsent")] + [("room", number, "doubled") for number in range(1, 40)])

    def test_left_out_and_by_name(self):
        bridge, room = ((0, "port", 1),), ((1, "star", 1),)
        self.assertEqual(strange(bridge, room, []), [("room", 0, "unsent")])
        self.assertEqual(strange(bridge, room, [], 1), [("room", 0, "crossed")])
        self.assertEqual(strange(bridge, room, [], lag=1), [("room", 0, "crossed")])
        for told in each_way(strange, [BRIDGE, ROOM, JOINED, 5, 1], ["bridge", "room", "joining", "d", "lag"]):
            self.assertEqual(told, STRANGE)


class Lot(unittest.TestCase):
    def test_ordinary(self):
        self.assertEqual(lot(BRIDGE, ROOM, JOINED), 7)
        self.assertEqual(lot(BRIDGE, ROOM, []), 9)

    def test_no_rows(self):
        self.assertEqual(lot((), (), []), 0)
        self.assertEqual(lot(BRIDGE, (), []), 4)
        self.assertEqual(lot((), ROOM, []), 5)

    def test_the_greatest_joinings_have_the_least(self):
        for chance in chances(60, 81):
            bridge, room, d, lag = small_case(chance)
            joined = joining(bridge, room, d, lag)
            self.assertEqual(lot(bridge, room, joined),
                             min(lot(bridge, room, other) for other in greatest_by_words(bridge, room, d, lag)))
            if joined:
                self.assertEqual(lot(bridge, room, joined[1:]), lot(bridge, room, joined) + 2)

    def test_forty_rows(self):
        log = ((0, "port", 1),) * 40
        self.assertEqual(lot(log, log, joining(log, log)), 0)
        self.assertEqual(lot(log, log, []), 80)

    def test_by_name(self):
        for told in each_way(lot, [BRIDGE, ROOM, JOINED], ["bridge", "room", "joining"]):
            self.assertEqual(told, 7)


class Together(unittest.TestCase):
    def test_by_chance(self):
        seen = set()
        for chance in chances(300, 82):
            bridge, room = (random_log(chance, ("port", "star", "aport", "astar", "up"), 9, 8, [0, 1]) for _ in range(2))
            d, lag = chance.randint(-3, 3), chance.randint(0, 4)
            joined = joining(bridge, room, d, lag)
            joined = sorted(chance.sample(joined, chance.randint(0, len(joined))))
            self.assertEqual(missed(bridge, room, joined), missed_by_words(bridge, room, joined))
            told = strange(bridge, room, joined, d, lag)
            self.assertEqual(told, strange_by_words(bridge, room, joined, d, lag))
            self.assertEqual(lot(bridge, room, joined), len(told) + len(missed(bridge, room, joined)))
            seen |= {(house, why) for house, _, why in told}
        self.assertEqual(len(seen), 6)

    def test_nothing_is_changed_and_what_is_told_is_the_askers_own(self):
        joined = list(JOINED)
        for function, more in ((missed, ()), (strange, (5, 1))):
            told = function(BRIDGE, ROOM, joined, *more)
            kept = copy.deepcopy(told)
            self.assertIs(type(told), list)
            self.assertTrue(all(type(row) is tuple for row in told))
            told.append(None)
            told[0] = None
            self.assertEqual(function(BRIDGE, ROOM, joined, *more), kept)
        lot(BRIDGE, ROOM, joined)
        self.assertEqual(joined, JOINED)


if __name__ == "__main__":
    unittest.main()
