"""Rows and lines (4)."""

import copy
import unittest

from ringorders.errors import NoRow
from ringorders.rows import dial_of, is_row, row_of, sent_from
from tests.helper import BELLS, LINES, odd_things

GOOD = ([(minute, line, order) for minute in (0, 1, 4000, 99999) for line in BELLS for order in range(-4, 5)]
        + [(minute, line, name) for minute in (0, 99999) for line in ("down", "up") for name in ("a", "abcdefgh")])

BAD = [
    (-1, "port", 0), (100000, "port", 0), (True, "port", 0), (False, "port", 0), (None, "port", 0), ("5", "port", 0),
    (10 ** 99, "port", 0), ((5,), "port", 0), ([], "port", 0), ({}, "port", 0),
    (5, "port", -5), (5, "port", 5), (5, "port", True), (5, "star", False), (5, "aport", True), (5, "port", None),
    (5, "port", "stop"), (5, "port", "a"), (5, "astar", "a"), (5, "star", (0,)), (5, "star", [0]), (5, "star", {}),
    (5, "port", 10 ** 99), (5, "port", ""), (5, "port", [[0]]),
    (5, "down", 0), (5, "up", 1), (5, "down", True), (5, "down", None), (5, "up", ""), (5, "up", "abcdefghi"),
    (5, "down", "A"), (5, "down", "a b"), (5, "up", ["a"]), (5, "up", ("a",)), (5, "up", {"a": "a"}),
    (5, "Port", 0), (5, "port ", 0), (5, "", 0), (5, "starboard", 0), (5, "dport", 0), (5, "adown", "a"),
    (5, None, 0), (5, 0, 0), (5, True, 0), (5, ("port",), 0), (5, ["port"], 0), (5, {"port": 0}, 0), (5, [], 0),
    (5, {}, 0), (5, "ports", 0), (5, [[]], "a"),
    (), (5,), (5, "port"), (5, "port", 0, 0), (5, "port", 0, None), ("port", 5, 0), (0, 5, "port"), (5, 0, "port"),
    ((5, "port", 0),), ((5, "port", 0), (5, "port", 0), (5, "port", 0)),
]


class IsRow(unittest.TestCase):
    def test_rows(self):
        for row in GOOD:
            self.assertIs(is_row(row), True, row)

    def test_lists_are_none(self):
        for row in GOOD:
            self.assertIs(is_row(list(row)), False, row)

    def test_none(self):
        for thing in BAD:
            self.assertIs(is_row(thing), False, thing)
            self.assertIs(is_row(list(thing)), False, thing)

    def test_whatever_it_is(self):
        for thing in odd_things() + ["port", "abc", {0: 5, 1: "port", 2: 0}, {5: 0, "port": 0, 0: 0}]:
            self.assertIs(is_row(thing), False, thing)

    def test_by_name(self):
        self.assertIs(is_row(thing=(5, "port", 0)), True)


class RowOf(unittest.TestCase):
    def test_of_a_tuple_and_a_list(self):
        for row in GOOD:
            for thing in (row, list(row)):
                told = row_of(thing)
                self.assertIs(type(told), tuple)
                self.assertEqual(told, row)
                self.assertEqual([type(part) for part in told], [type(part) for part in row])

    def test_refused(self):
        for thing in BAD + [list(thing) for thing in BAD]:
            with self.assertRaises(NoRow, msg=thing):
                row_of(thing)

    def test_whatever_it_is(self):
        for thing in odd_things() + ["port", "abc", {0: 5, 1: "port", 2: 0}, {5: 0, "port": 0, 0: 0}]:
            with self.assertRaises(NoRow, msg=thing):
                row_of(thing)

    def test_by_name(self):
        self.assertEqual(row_of(thing=[5, "up", "a"]), (5, "up", "a"))

    def test_what_is_handed_in_is_copied(self):
        thing = [5, "port", 2]
        told = row_of(thing)
        self.assertEqual(thing, [5, "port", 2])
        thing[0] = 6
        self.assertEqual(told, (5, "port", 2))
        self.assertEqual(row_of(thing), (6, "port", 2))

    def test_nothing_is_changed(self):
        for thing in BAD + [list(thing) for thing in BAD] + odd_things():
            kept = copy.deepcopy(thing)
            is_row(thing)
            with self.assertRaises(NoRow):
                row_of(thing)
            self.assertEqual(thing, kept)


class Lines(unittest.TestCase):
    def test_sent_from(self):
        told = {line: sent_from(line) for line in LINES}
        self.assertEqual(told, {"port": "bridge", "star": "bridge", "down": "bridge",
                                "aport": "room", "astar": "room", "up": "room"})
        self.assertEqual(sent_from(line="up"), "room")

    def test_dial_of(self):
        self.assertEqual(dial_of("port"), "aport")
        self.assertEqual(dial_of("star"), "astar")
        self.assertEqual(dial_of(engine="star"), "astar")


if __name__ == "__main__":
    unittest.main()
