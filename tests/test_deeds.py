"""A watch's deeds: telling, dropping, taking back and doing again, and what they tell (27, 28; 2 and 3, too)."""

import itertools
import unittest

from ringorders.counts import counts
from ringorders.errors import Full, Late, NoNumber, NoRow, Nothing, Taken, Unknown
from ringorders.joinings import is_joining
from ringorders.lots import lot
from ringorders.rows import is_row
from ringorders.watch import Watch
from tests.helper import alike, chances, otherwise
from tests.watches import ANSWERS, NO_HOUSES, NO_NUMBERS, NO_ROWS, ROWS, Model, outcome, told_by, watch_of


class Telling(unittest.TestCase):
    def test_ordinary(self):
        watch = watch_of(ROWS)
        self.assertEqual(watch.log("bridge"), tuple(row for house, _, row in ROWS if house == "bridge"))
        self.assertEqual(watch.log("room"), tuple(row for house, _, row in ROWS if house == "room"))
        self.assertEqual(watch.best(), (3, [(0, 0), (1, 1), (2, 2), (4, 4), (5, 5)]))
        self.assertEqual(watch.lot(), 2)
        for number, answer in ANSWERS.items():
            self.assertEqual(watch.ask(number), answer)

    def test_in_any_order(self):
        wanted = told_by(watch_of(ROWS))
        for chance in chances(20, 271):
            rows = list(ROWS)
            chance.shuffle(rows)
            watch = watch_of(rows)
            self.assertEqual(told_by(watch), wanted)
            self.assertTrue(watch == watch_of(ROWS))

    def test_lists_make_rows(self):
        row = [5, "port", 1]
        watch = Watch()
        watch.tell("bridge", 0, row)
        row[0] = 7
        self.assertEqual(watch.log("bridge"), ((5, "port", 1),))
        self.assertTrue(watch == watch_of([("bridge", 0, (5, "port", 1))], 0, 0, 0))

    def test_numbers_0_and_999_and_one_beyond(self):
        watch = Watch()
        self.assertEqual(watch.tell("room", 999, (9, "up", "a")), [])
        self.assertEqual(watch.tell("room", 0, (3, "up", "b")), [])
        self.assertEqual(watch.log("room"), ((3, "up", "b"), (9, "up", "a")))
        for number in (-1, 1000):
            for house in ("bridge", "room"):
                with self.assertRaises(NoNumber):
                    watch.tell(house, number, (5, "up", "a"))
                with self.assertRaises(NoNumber):
                    watch.drop(house, number)

    def test_rows_at_the_same_minute_as_those_next_to_them(self):
        for order in itertools.permutations(range(3)):
            watch = Watch()
            for number in order:
                self.assertEqual(watch.tell("bridge", number, (5, "port", number)), [])
            self.assertEqual(watch.log("bridge"), tuple((5, "port", number) for number in range(3)))

    def test_late(self):
        watch = watch_of([("bridge", 10, (5, "port", 1)), ("bridge", 20, (9, "port", 1)), ("room", 15, (1, "up", "a"))])
        for number, minute, at in ((0, 6, 10), (9, 99999, 10), (15, 4, 10), (15, 0, 10), (15, 10, 20), (21, 8, 20),
                                   (999, 0, 20)):
            with self.assertRaises(Late) as caught:
                watch.tell("bridge", number, (minute, "port", 1))
            self.assertEqual(caught.exception.number, at)
        self.assertEqual(len(watch), 3)
        for number, minute in ((9, 5), (11, 5), (19, 9), (21, 9)):
            watch.tell("bridge", number, (minute, "port", 1))
        self.assertEqual(len(watch), 7)

    def test_late_by_those_next_to_it_alone_and_by_numbers(self):
        watch = watch_of([("room", number, (number, "up", "a")) for number in (1, 2, 3, 7, 8, 9)])
        for minute, at in ((0, 3), (2, 3), (8, 7), (9, 7), (99, 7)):
            with self.assertRaises(Late) as caught:
                watch.tell("room", 5, (minute, "up", "a"))
            self.assertEqual(caught.exception.number, at)
        watch.tell("bridge", 5, (0, "up", "a"))

    def test_forty_rows_of_a_house(self):
        watch = Watch()
        for house in ("bridge", "room"):
            for number in range(40):
                watch.tell(house, 3 * number, (number, "port", number % 3))
            with self.assertRaises(Full):
                watch.tell(house, 1, (0, "port", 1))
        self.assertEqual((len(watch), len(watch.log("bridge")), len(watch.log("room"))), (80, 40, 40))
        watch.drop("bridge", 0)
        with self.assertRaises(Full):
            watch.tell("room", 1, (0, "port", 1))
        watch.tell("bridge", 1, (0, "port", 1))
        with self.assertRaises(Full):
            watch.tell("bridge", 0, (0, "port", 1))

    def test_the_order_of_refusals(self):
        watch = Watch()
        for number in range(40):
            watch.tell("room", 10 * number, (number + 5, "up", "a"))
        row, late = (5, "up", "a"), (0, "up", "a")
        for house, number, what, wanted in (
                ("x", -1, None, Unknown), ("x", 10, row, Unknown), ("room", -1, None, NoNumber),
                ("room", 1000, late, NoNumber), ("room", 10, None, NoRow), ("room", 15, [], NoRow),
                ("room", 10, late, Taken), ("room", 0, row, Taken), ("room", 15, late, Full), ("room", 15, row, Full)):
            with self.assertRaises(wanted):
                watch.tell(house, number, what)
        watch.drop("room", 390)
        with self.assertRaises(Taken):
            watch.tell("room", 10, late)
        with self.assertRaises(Late):
            watch.tell("room", 15, late)

    def test_refused_whatever_it_is(self):
        watch = watch_of(ROWS)
        watch.ask(10)
        wanted = told_by(watch)
        for house in NO_HOUSES:
            for number, row in ((1, (0, "port", 1)), (10, None), (None, None)):
                with self.assertRaises(Unknown) as caught:
                    watch.tell(house, number, row)
                self.assertTrue(alike(caught.exception.name, house))
        for number in NO_NUMBERS:
            for row in ((0, "port", 1), None):
                with self.assertRaises(NoNumber, msg=number):
                    watch.tell("bridge", number, row)
        for row in NO_ROWS:
            for number in (1, 10):
                with self.assertRaises(NoRow, msg=row):
                    watch.tell("bridge", number, row)
        self.assertEqual(told_by(watch), wanted)

    def test_rows_with_one_thing_otherwise(self):
        for thing in otherwise((7, "port", 1)):
            watch = Watch()
            if isinstance(thing, (list, tuple)) and is_row(tuple(thing)):
                watch.tell("bridge", 0, thing)
                self.assertTrue(alike(watch.log("bridge"), (tuple(thing),)), thing)
            else:
                with self.assertRaises(NoRow, msg=thing):
                    watch.tell("bridge", 0, thing)

    def test_by_name(self):
        watch = Watch()
        self.assertEqual(watch.tell(row=(0, "port", 1), number=3, house="bridge"), [])
        self.assertEqual(watch.log(house="bridge"), ((0, "port", 1),))
        self.assertEqual(watch.drop(number=3, house="bridge"), [])
        self.assertEqual(watch.log(house="bridge"), ())


class Dropping(unittest.TestCase):
    def test_ordinary(self):
        watch = watch_of(ROWS)
        self.assertEqual(watch.drop("bridge", 20), [])
        wanted = tuple(row for house, number, row in ROWS if house == "bridge" and number != 20)
        self.assertEqual(watch.log("bridge"), wanted)
        self.assertEqual(watch.ask(10), ("answered", 5, 7, None))
        watch.tell("bridge", 20, (4, "aport", -1))
        self.assertEqual(watch.ask(10), ("answered", 5, 7, None))

    def test_refused(self):
        watch = watch_of(ROWS)
        wanted = told_by(watch)
        for house in NO_HOUSES:
            with self.assertRaises(Unknown) as caught:
                watch.drop(house, 10)
            self.assertTrue(alike(caught.exception.name, house))
            with self.assertRaises(Unknown):
                watch.drop(house, None)
        for number in NO_NUMBERS + [0, 5, 999]:
            with self.assertRaises(NoNumber, msg=number):
                watch.drop("bridge", number)
        watch.drop("bridge", 10)
        with self.assertRaises(NoNumber):
            watch.drop("bridge", 10)
        watch.back()
        self.assertEqual(told_by(watch), wanted)

    def test_truths_for_numbers(self):
        watch = watch_of([("bridge", 0, (0, "port", 1)), ("bridge", 1, (0, "port", 1))])
        for number in (False, True):
            with self.assertRaises(NoNumber):
                watch.drop("bridge", number)
            with self.assertRaises(Unknown):
                watch.ask(number)
            with self.assertRaises(NoNumber):
                watch.tell("room", number, (0, "port", 1))
        watch.ask(0)
        watch.ask(1)
        for number in (False, True):
            with self.assertRaises(Unknown):
                watch.forget(number)
        self.assertEqual(watch.asked(), [0, 1])


class BackAndAgain(unittest.TestCase):
    def test_as_long_as_there_is_something(self):
        watch = Watch(1, 0, 9)
        steps = [told_by(watch)]
        for row in ROWS:
            watch.tell(*row)
            steps.append(told_by(watch))
        for house, number in (("bridge", 30), ("room", 5), ("bridge", 10)):
            watch.drop(house, number)
            steps.append(told_by(watch))
        for _ in range(2):
            for step in steps[-2::-1]:
                watch.back()
                self.assertEqual(told_by(watch), step)
            with self.assertRaises(Nothing):
                watch.back()
            for step in steps[1:]:
                watch.again()
                self.assertEqual(told_by(watch), step)
            with self.assertRaises(Nothing):
                watch.again()

    def test_nothing(self):
        watch = Watch()
        for deed in (watch.back, watch.again):
            with self.assertRaises(Nothing):
                deed()
        watch.tell("bridge", 0, (0, "port", 1))
        with self.assertRaises(Nothing):
            watch.again()
        watch.back()
        with self.assertRaises(Nothing):
            watch.back()

    def test_another_deed_between_forgets(self):
        for deed in (lambda watch: watch.tell("room", 999, (99, "up", "a")), lambda watch: watch.drop("room", 5)):
            watch = watch_of(ROWS)
            watch.back()
            watch.back()
            deed(watch)
            with self.assertRaises(Nothing):
                watch.again()
            watch.back()
            watch.again()
            with self.assertRaises(Nothing):
                watch.again()

    def test_what_is_refused_and_what_is_asked_forgets_nothing(self):
        watch = watch_of(ROWS)
        watch.back()
        for deed in (lambda: watch.tell("room", 5, (0, "up", "a")), lambda: watch.drop("room", 6),
                     lambda: watch.tell("x", 5, (0, "up", "a")), lambda: watch.tell("room", 6, (99, "up", "a")),
                     lambda: watch.ask(11), lambda: watch.forget(10)):
            with self.assertRaises((Taken, NoNumber, Unknown, Late)):
                deed()
        watch.ask(10)
        watch.ask(30)
        watch.forget(30)
        watch.best()
        watch.again()
        self.assertTrue(watch == watch_of(ROWS))
        # Asking and forgetting are not taken back.
        watch.back()
        watch.back()
        self.assertEqual(watch.asked(), [10])


class ByChance(unittest.TestCase):
    def deed(self, chance):
        """A deed by chance, as a name and its arguments."""
        house, number = chance.choice(["bridge", "room"]), chance.randint(0, 9)
        kind = chance.choice(["tell"] * 6 + ["drop"] * 2 + ["back", "back", "again", "ask", "ask", "forget"])
        if kind == "tell":
            line = chance.choice(["port", "port", "aport", "aport", "star", "up"])
            what = "a" if line == "up" else chance.choice([0, 1, 1, 1])
            return kind, (house, number, (number + chance.randint(0, 2), line, what))
        return kind, {"drop": (house, number), "ask": (number,), "forget": (number,)}.get(kind, ())

    def test_deeds_against_the_words(self):
        seen = set()
        for chance in chances(60, 272):
            stretch = (chance.randint(0, 3), chance.randint(-3, 0), chance.randint(0, 3))
            watch, model = Watch(*stretch), Model(*stretch)
            for _ in range(60):
                kind, values = self.deed(chance)
                told = outcome(lambda: getattr(watch, kind)(*values))
                self.assertEqual(told, getattr(model, kind)(*values), (kind, values))
                seen.add((kind, told if isinstance(told, str) else told[0] if isinstance(told, tuple) else bool(told)))
                self.check(watch, model)
        self.assertTrue({("tell", "Taken"), ("tell", "Late"), ("tell", True), ("tell", False), ("drop", True),
                         ("drop", "NoNumber"), ("back", True), ("again", True), ("again", "Nothing"),
                         ("ask", "Unknown"), ("ask", "answered"), ("ask", "taken"), ("ask", "open"), ("ask", "never"),
                         ("forget", "Unknown")} <= seen)

    def check(self, watch, model):
        bridge, room = model.log("bridge"), model.log("room")
        self.assertEqual((watch.log("bridge"), watch.log("room"), watch.asked()), (bridge, room, sorted(model.asked)))
        d, joined = watch.best()
        lag, low, high = model.stretch
        self.assertTrue(low <= d <= high and is_joining(bridge, room, joined, d, lag))
        many = counts(bridge, room, *model.stretch)
        most = max(part[2] for part in many)
        self.assertEqual((d, len(joined)), (min(part[0] for part in many if part[2] == most), most))
        self.assertEqual((watch.lot(), len(watch)), (lot(bridge, room, joined), len(bridge) + len(room)))


if __name__ == "__main__":
    unittest.main()
