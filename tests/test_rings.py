"""What became of a ring, and from when to when it was obeyed (19; 2 and 3 as far as they speak of them)."""

import copy
import unittest

from ringorders.errors import Unknown
from ringorders.joinings import joining
from ringorders.rings import obeyed, ring_of
from tests.helper import alike, chances, each_way, odd_things, otherwise, random_log

# Rings of all kinds: answered and seen, answered and not seen, taken back, never heard, open.
BRIDGE = ((0, "port", 1), (2, "aport", 1), (10, "port", 2), (20, "star", 3), (21, "star", -3), (22, "down", "dora"),
          (30, "port", 0))
ROOM = ((5, "port", 1), (6, "aport", 2), (7, "aport", 1), (15, "port", 2), (16, "aport", 2), (25, "star", 3),
        (27, "star", 4), (28, "port", -1))
JOINED = [(0, 0), (1, 2), (2, 3), (3, 5)]
RINGS = {0: ("answered", 0, 2, 1), 2: ("answered", 3, 4, None), 3: ("taken", 5, 6), 4: ("never",), 6: ("never",)}
NAMES = ["bridge", "room", "joining", "number"]


def ring_by_words(bridge, room, joined, number):
    """What became of a ring, by the document's words."""
    heard = [r for b, r in joined if b == number]
    if not heard:
        return ("never",)
    (r,), engine = heard, bridge[number][1]
    for later in range(r + 1, len(room)):
        if room[later][1] == engine:
            return ("taken", r, later)
        if room[later][1] == "a" + engine and room[later][2] == room[r][2]:
            return ("answered", r, later, next((b for b, other in joined if other == later), None))
    return ("open", r)


class RingOf(unittest.TestCase):
    def test_ordinary(self):
        for number, wanted in RINGS.items():
            self.assertEqual(ring_of(BRIDGE, ROOM, JOINED, number), wanted)

    def test_open(self):
        bridge = ((0, "star", 2),)
        for room in (((0, "star", 2),), ((0, "star", 2), (1, "astar", 1)), ((0, "star", 2), (1, "aport", 2)),
                     ((0, "star", 2), (1, "port", 2)), ((0, "star", 2), (0, "down", "a"), (2, "up", "b"))):
            self.assertEqual(ring_of(bridge, room, [(0, 0)], 0), ("open", 0))
        self.assertEqual(ring_of(bridge, ((0, "astar", 2), (0, "star", 2)), [(0, 1)], 0), ("open", 1))

    def test_the_first_row_behind_it_that_is_so(self):
        bridge = ((0, "star", 2),)
        for room, wanted in ((((0, "star", 2), (0, "star", 2), (0, "astar", 2)), ("taken", 0, 1)),
                             (((0, "star", 2), (0, "astar", 1), (0, "astar", 2), (0, "star", 1)), ("answered", 0, 2, None)),
                             (((0, "star", 2), (0, "astar", 1), (0, "star", 2), (0, "astar", 2)), ("taken", 0, 2)),
                             (((0, "star", 2), (0, "astar", 2), (0, "astar", 2)), ("answered", 0, 1, None))):
            self.assertEqual(ring_of(bridge, room, [(0, 0)], 0), wanted)

    def test_by_the_rooms_log_and_not_by_the_bridges(self):
        bridge = ((0, "port", 1), (0, "port", 2), (0, "aport", 1))
        self.assertEqual(ring_of(bridge, ((0, "port", 1),), [(0, 0)], 0), ("open", 0))
        self.assertEqual(ring_of(bridge, ((0, "port", 1), (0, "aport", 1)), [(0, 0)], 0), ("answered", 0, 1, None))
        self.assertEqual(ring_of(bridge, ((0, "port", 1), (0, "aport", 1)), [(0, 0), (2, 1)], 0), ("answered", 0, 1, 2))

    def test_with_a_joining_without_pairs(self):
        for number in RINGS:
            self.assertEqual(ring_of(BRIDGE, ROOM, [], number), ("never",))
            self.assertEqual(ring_of(BRIDGE, (), [], number), ("never",))

    def test_forty_rows(self):
        log = tuple((number, "port" if number % 2 == 0 else "aport", 1) for number in range(40))
        joined = [(number, number) for number in range(40)]
        for number in range(0, 40, 2):
            self.assertEqual(ring_of(log, log, joined, number), ("answered", number, number + 1, number + 1))
            self.assertEqual(ring_of(log, log, joined[:1], number), ("answered", 0, 1, None) if number == 0 else ("never",))

    def test_by_chance(self):
        seen = set()
        for chance in chances(300, 91):
            bridge, room = (random_log(chance, ("port", "aport", "star", "astar"), 9, 6, [0, 1]) for _ in range(2))
            joined = joining(bridge, room, 0, 3)
            for number, row in enumerate(bridge):
                if row[1] in ("port", "star"):
                    told = ring_of(bridge, room, joined, number)
                    self.assertEqual(told, ring_by_words(bridge, room, joined, number))
                    self.assertIs(type(told), tuple)
                    seen.add((told[0], told[-1] is None))
        self.assertEqual(seen, {("answered", True), ("answered", False), ("taken", False), ("open", False),
                                ("never", False)})

    def test_by_name(self):
        for told in each_way(ring_of, [BRIDGE, ROOM, JOINED, 0], NAMES):
            self.assertEqual(told, ("answered", 0, 2, 1))


class Obeyed(unittest.TestCase):
    def test_ordinary(self):
        for number, wanted in {0: (0, 10), 2: (10, 23), 3: (20, 22), 4: None, 6: None}.items():
            self.assertEqual(obeyed(BRIDGE, ROOM, JOINED, number, 5), wanted)

    def test_a_next_row_or_none(self):
        bridge = ((0, "star", 2),)
        for room, wanted in ((((7, "star", 2),), (7, None)), (((7, "star", 2), (9, "star", 2)), (7, 9)),
                             (((7, "star", 2), (7, "star", 0), (9, "star", 1)), (7, 7)),
                             (((7, "star", 2), (8, "port", 2), (9, "astar", 2)), (7, None)),
                             (((6, "star", 1), (7, "star", 2)), (7, None))):
            self.assertEqual(obeyed(bridge, room, [(0, 0) if room[0][0] == 7 else (0, 1)], 0), wanted)

    def test_minutes_below_0_and_any_difference(self):
        bridge, room = ((0, "port", 1),), ((5, "port", 1), (9, "port", 2))
        for d, wanted in ((0, (5, 9)), (5, (0, 4)), (6, (-1, 3)), (1440, (-1435, -1431)), (-1440, (1445, 1449))):
            self.assertEqual(obeyed(bridge, room, [(0, 0)], 0, d), wanted)
        self.assertEqual(obeyed(bridge, room[:1], [(0, 0)], 0, 1440), (-1435, None))

    def test_never_heard(self):
        for number in RINGS:
            self.assertIsNone(obeyed(BRIDGE, ROOM, [], number, 5))
            self.assertIsNone(obeyed(BRIDGE, (), [], number))

    def test_no_two_of_one_engine_at_one_time(self):
        for chance in chances(100, 92):
            bridge, room = (random_log(chance, ("port", "star", "aport"), 9, 6, [0, 1]) for _ in range(2))
            joined = joining(bridge, room, 1, 3)
            for engine in ("port", "star"):
                told = [obeyed(bridge, room, joined, number, 1) for number, row in enumerate(bridge) if row[1] == engine]
                told = [part for part in told if part is not None]
                for one, other in zip(told, told[1:]):
                    self.assertLessEqual(one[0], one[1])
                    self.assertLessEqual(one[1], other[0])

    def test_left_out_and_by_name(self):
        self.assertEqual(obeyed(BRIDGE, ROOM, JOINED, 0), (5, 15))
        self.assertEqual(obeyed(BRIDGE, ROOM, JOINED, 0, d=5), (0, 10))
        for told in each_way(obeyed, [BRIDGE, ROOM, JOINED, 3, 5], NAMES + ["d"]):
            self.assertEqual(told, (20, 22))


class UnknownNumbers(unittest.TestCase):
    def refused(self, bridge, room, joined, number):
        for function, more in ((ring_of, ()), (obeyed, ()), (obeyed, (1440,))):
            with self.assertRaises(Unknown, msg=number) as caught:
                function(bridge, room, joined, number, *more)
            self.assertTrue(alike(caught.exception.name, number), number)

    def test_rows_on_other_lines(self):
        for number in (1, 5):
            self.refused(BRIDGE, ROOM, JOINED, number)
        log = ((0, "down", "a"), (0, "aport", 1), (0, "astar", 1), (0, "up", "a"))
        for number in range(4):
            self.refused(log, log, [(k, k) for k in range(4)], number)

    def test_below_0_and_beyond(self):
        for number in (-1, -7, -8, 7, 8, 40, 99999, 10 ** 99, -(10 ** 99)):
            self.refused(BRIDGE, ROOM, JOINED, number)
        for number in (0, -1, 1):
            self.refused((), ROOM, [], number)
        self.refused(BRIDGE[:1], ROOM, [], 1)

    def test_whatever_it_is(self):
        for thing in odd_things():
            self.refused(BRIDGE, ROOM, JOINED, thing)
            self.refused(BRIDGE, (), [], thing)
            self.refused((), (), [], thing)

    def test_truths_for_numbers_and_the_like(self):
        log = ((0, "port", 1), (0, "port", 1))
        for number in (False, True, "0", "1", (0,), [1], {0: 0}, None, (0, 0)):
            self.refused(log, log, [(0, 0), (1, 1)], number)
        for number in otherwise(3):
            if not any(alike(number, ring) for ring in RINGS):
                self.refused(BRIDGE, ROOM, JOINED, number)

    def test_nothing_is_changed(self):
        joined = list(JOINED)
        for thing in odd_things() + list(RINGS):
            kept = copy.deepcopy(thing)
            for function in (ring_of, obeyed):
                try:
                    function(BRIDGE, ROOM, joined, thing)
                except Unknown:
                    pass
            self.assertEqual((thing, joined), (kept, JOINED))


if __name__ == "__main__":
    unittest.main()
