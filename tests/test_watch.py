"""A watch: what it is made of, what it tells of the rows kept, and when two are alike (27 to 29; 2 and 3, too)."""

import copy
import unittest

from ringorders.errors import NoStretch, Nothing, RingError, Unknown
from ringorders.watch import Watch
from tests.helper import alike, each_way, odd_things
from tests.watches import ANSWERS, NO_HOUSES, ROWS, told_by, watch_of


class Making(unittest.TestCase):
    def test_lags_and_stretches(self):
        for values in ((), (0,), (60,), (0, 0, 0), (60, -1440, -1200), (5, 1200, 1440), (0, -120, 120), (0, 1440, 1440),
                       (0, -1440, -1440), (0, 0, 240), (1, -240, 0)):
            self.assertEqual(len(Watch(*values)), 0)

    def test_no_stretch(self):
        for values in ((-1,), (61,), (0, 1, 0), (0, 0, 241), (0, -121, 120), (0, 1201, 1442), (0, 1441, 1441),
                       (0, -1441, -1441), (0, -1440, 1440), (0, 1), (0, 0, -1), (0, 5, -5), (10 ** 99,),
                       (0, -(10 ** 99), 0), (0, 0, 10 ** 99), (True,), (0, False), (0, 0, True), (0, False, False),
                       (1, 0, True)):
            with self.assertRaises(NoStretch, msg=values):
                Watch(*values)

    def test_no_stretch_whatever_they_are(self):
        for thing in odd_things():
            for values in ((thing, 0, 0), (0, thing, 0), (0, 0, thing), (thing, thing, thing)):
                if not any(alike(values, good) for good in ((0, -1, 0), (0, -5, 0))):
                    with self.assertRaises(NoStretch, msg=values):
                        Watch(*values)

    def test_it_is_a_ring_error(self):
        with self.assertRaises(RingError):
            Watch("0")

    def test_left_out_and_by_name(self):
        self.assertTrue(Watch() == Watch(0, 0, 0) == Watch(high=0) == Watch(low=0, lag=0))
        for watch in each_way(Watch, [1, -2, 3], ["lag", "low", "high"]):
            self.assertTrue(watch == Watch(1, -2, 3))
        self.assertEqual(Watch(high=7).best(), (0, []))
        self.assertEqual(Watch(low=-7).best(), (-7, []))


class Asked(unittest.TestCase):
    def test_unknown(self):
        watch = watch_of(ROWS)
        for number in [thing for thing in odd_things() + [0, 5, 20, 60, 7, 999, 1000, -10, "10", (10,), True]]:
            with self.assertRaises(Unknown) as caught:
                watch.ask(number)
            self.assertTrue(alike(caught.exception.name, number))
        self.assertEqual(watch.asked(), [])

    def test_asked_and_forgotten(self):
        watch = watch_of(ROWS)
        for number in (50, 10, 30, 10):
            watch.ask(number)
        self.assertEqual(watch.asked(), [10, 30, 50])
        self.assertIsNone(watch.forget(30))
        self.assertEqual(watch.asked(), [10, 50])
        for number in odd_things() + [30, 40, 20, "10", True, (10,)]:
            with self.assertRaises(Unknown) as caught:
                watch.forget(number)
            self.assertTrue(alike(caught.exception.name, number))
        watch.forget(number=10)
        self.assertEqual(watch.ask(number=50), ("open", 13))
        self.assertEqual(watch.asked(), [50])

    def test_rings_answered_otherwise(self):
        watch = watch_of(ROWS)
        for number in ANSWERS:
            watch.ask(number)
        self.assertEqual(watch.tell("room", 12, (9, "up", "a")), [])
        self.assertEqual(watch.drop("room", 11), [30])
        self.assertEqual(watch.ask(30), ("open", 9))
        self.assertEqual(watch.tell("room", 10, (8, "astar", 2)), [30])
        self.assertEqual(watch.ask(30), ("answered", 9, 10, None))
        self.assertEqual(watch.tell("bridge", 35, (5, "astar", 2)), [30])
        self.assertEqual(watch.ask(30), ("answered", 9, 10, 35))
        self.assertEqual(watch.back(), [30])
        self.assertEqual(watch.back(), [30])
        self.assertEqual(watch.again(), [30])
        self.assertEqual(watch.tell("room", 11, (9, "star", -2)), [40])
        self.assertEqual(watch.tell("room", 14, (12, "aport", 3)), [50])

    def test_several_at_once(self):
        watch = watch_of([("bridge", 0, (0, "port", 1)), ("bridge", 1, (9, "port", 1)), ("room", 0, (0, "port", 1)),
                          ("room", 1, (20, "port", 1))], 0, 0, 30)
        for number in (1, 0):
            watch.ask(number)
        self.assertEqual((watch.best(), watch.ask(0), watch.ask(1)), ((0, [(0, 0)]), ("taken", 0, 1), ("never",)))
        # With another row both fit at a difference of 11.
        self.assertEqual(watch.tell("room", 500, (22, "up", "a")), [])
        self.assertEqual(watch.tell("bridge", 7, (11, "up", "a")), [0, 1])
        self.assertEqual((watch.best(), watch.ask(0), watch.ask(1)), ((11, [(1, 1), (2, 2)]), ("never",), ("open", 1)))
        self.assertEqual(watch.back(), [0, 1])

    def test_rings_dropped_told_anew_and_forgotten(self):
        watch = watch_of(ROWS)
        watch.ask(40)
        watch.ask(10)
        self.assertEqual(watch.drop("bridge", 40), [40])
        self.assertEqual(watch.asked(), [10, 40])
        with self.assertRaises(Unknown) as caught:
            watch.ask(40)
        self.assertEqual(caught.exception.name, 40)
        self.assertEqual(watch.asked(), [10, 40])
        # None is its answer as long as the row stands on no bell.
        self.assertEqual(watch.tell("bridge", 40, (6, "astar", 2)), [])
        with self.assertRaises(Unknown):
            watch.ask(40)
        self.assertEqual(watch.drop("bridge", 40), [])
        self.assertEqual(watch.tell("bridge", 40, (6, "star", -3)), [40])
        self.assertEqual(watch.back(), [40])
        watch.forget(40)
        self.assertEqual(watch.again(), [])
        self.assertEqual(watch.drop("bridge", 10), [10])
        watch.forget(10)
        self.assertEqual(watch.back(), [])

    def test_the_numbers_are_those_of_the_watch(self):
        watch = watch_of(ROWS)
        watch.ask(10)
        # All rows ahead of it move their numbers in the logs, but none of those in the answer.
        self.assertEqual(watch.tell("bridge", 3, (0, "down", "a")), [])
        self.assertEqual(watch.tell("room", 2, (0, "down", "b")), [])
        self.assertEqual(watch.ask(10), ("answered", 5, 7, 20))
        self.assertEqual(watch.best()[1][0], (1, 1))
        self.assertEqual(watch.lot(), 4)


class Told(unittest.TestCase):
    def test_no_rows(self):
        for low, high in ((0, 0), (-3, 200), (1440, 1440)):
            watch = Watch(5, low, high)
            self.assertEqual(told_by(watch), ((), (), (low, []), 0, [], [], 0))

    def test_logs_of_no_house(self):
        watch = watch_of(ROWS)
        for house in NO_HOUSES:
            with self.assertRaises(Unknown) as caught:
                watch.log(house)
            self.assertTrue(alike(caught.exception.name, house))

    def test_it_is_the_askers_own(self):
        watch = watch_of(ROWS)
        watch.ask(10)
        kept = copy.deepcopy(told_by(watch))
        watch.best()[1].clear()
        watch.asked().append(7)
        watch.drop("room", 7).append(3)
        watch.back().clear()
        self.assertEqual(told_by(watch), kept)

    def test_great_logs_in_ordinary_time(self):
        watch = Watch(60, -120, 120)
        for number in range(40):
            watch.tell("bridge", number, (6 * number, "port", 1))
            if number % 2 == 0:
                watch.ask(number)
        for number in range(5):
            watch.tell("room", number, (48 * number, "port", 1))
        self.assertEqual(len(watch.best()[1]), 5)
        for _ in range(20):
            watch.back()
        for _ in range(20):
            watch.again()
        self.assertEqual(watch.lot(), 35)


class Likeness(unittest.TestCase):
    def test_length_and_truth(self):
        watch = Watch()
        self.assertEqual((len(watch), bool(watch)), (0, False))
        for many, row in enumerate(ROWS, 1):
            watch.tell(*row)
            self.assertEqual((len(watch), bool(watch)), (many, True))
        for many in range(len(ROWS) - 1, -1, -1):
            watch.back()
            self.assertEqual((len(watch), bool(watch)), (many, many > 0))

    def test_alike_whatever_was_asked_and_however_they_were_told(self):
        one, other = watch_of(ROWS), Watch(1, 0, 9)
        for row in ROWS[::-1]:
            other.tell(*row)
            if row[1] == 10:
                other.ask(10)
        other.drop("room", 5)
        self.assertFalse(one == other)
        self.assertTrue(one != other)
        other.tell("room", 5, [3, "port", 1])
        self.assertTrue(one == other)
        self.assertFalse(one != other)

    def test_not_alike(self):
        one = watch_of(ROWS)
        for values in ((2, 0, 9), (1, 1, 9), (1, 0, 8)):
            self.assertFalse(one == watch_of(ROWS, *values))
            self.assertFalse(Watch(*values) == Watch(1, 0, 9))
        for rows in (ROWS[1:], ROWS[:-1], ROWS[:-1] + [("room", 16, ROWS[-1][2])],
                     ROWS[:-1] + [("room", 15, (13, "down", "dora"))],
                     ROWS[:5] + ROWS[6:] + [("room", 60, (12, "down", "dora"))]):
            self.assertFalse(one == watch_of(rows))
        self.assertFalse(watch_of([("bridge", 0, (0, "port", 1))]) == watch_of([("room", 0, (0, "port", 1))]))

    def test_like_nothing_else(self):
        for thing in odd_things() + [0, 12, (1, 0, 9), ROWS, dict(enumerate(ROWS))]:
            for watch in (Watch(), watch_of(ROWS)):
                self.assertFalse(watch == thing)
                self.assertTrue(watch != thing)
                self.assertFalse(thing == watch)

    def test_twins_go_on_by_themselves(self):
        watch = watch_of(ROWS)
        watch.ask(10)
        watch.ask(30)
        watch.back()
        twin = watch.twin()
        self.assertIs(type(twin), Watch)
        self.assertIsNot(twin, watch)
        self.assertTrue(twin == watch)
        kept = told_by(watch)
        self.assertEqual(told_by(twin), kept)
        self.assertEqual(twin.again(), [])
        self.assertEqual(twin.drop("room", 11), [30])
        twin.forget(10)
        twin.ask(40)
        self.assertEqual(told_by(watch), kept)
        self.assertFalse(twin == watch)
        watch.again()
        self.assertTrue(watch == watch_of(ROWS))
        self.assertEqual((watch.asked(), twin.asked()), ([10, 30], [30, 40]))
        for _ in range(len(ROWS)):
            watch.back()
        with self.assertRaises(Nothing):
            watch.back()
        for _ in range(len(ROWS) + 1):
            twin.back()
        with self.assertRaises(Nothing):
            twin.back()
        self.assertTrue(twin == watch == Watch(1, 0, 9))
        other = twin.twin().twin()
        self.assertEqual((other.asked(), other.again(), len(twin)), ([30, 40], [], 0))


if __name__ == "__main__":
    unittest.main()
