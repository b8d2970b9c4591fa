"""Minutes, orders and names (4)."""

import copy
import unittest

from ringorders.things import is_minute, is_name, is_order
from tests.helper import odd_things


class Minutes(unittest.TestCase):
    def test_minutes(self):
        for thing in (0, 1, 9, 59, 60, 1440, 50000, 99998, 99999):
            self.assertIs(is_minute(thing), True, thing)

    def test_none(self):
        for thing in (-1, -2, 100000, 100001, -99999, 10 ** 29, 10 ** 99, -(10 ** 99), "0", "5"):
            self.assertIs(is_minute(thing), False, thing)

    def test_whatever_it_is(self):
        for thing in odd_things():
            self.assertIs(is_minute(thing), False, thing)


class Orders(unittest.TestCase):
    def test_orders(self):
        for thing in range(-4, 5):
            self.assertIs(is_order(thing), True, thing)

    def test_none(self):
        for thing in (-5, 5, 6, -6, 99999, 10 ** 99, -(10 ** 99), True, False, "0", "stop"):
            self.assertIs(is_order(thing), False, thing)

    def test_whatever_it_is(self):
        for thing in odd_things():
            # -1 alone among the odd things is an order.
            self.assertIs(is_order(thing), thing == -1, thing)


class Names(unittest.TestCase):
    def test_names(self):
        for thing in ("a", "z", "az", "dora", "abcdefgh", "zzzzzzzz", "port"):
            self.assertIs(is_name(thing), True, thing)

    def test_none(self):
        for thing in ("", "abcdefghi", "A", "Dora", "doRa", "a1", "1", "a ", " a", "a b", "a\n", "\n", "a-b", "a_b",
                      "`", "{", "~", "a{", "`a", "@", "[", "a" * 4000):
            self.assertIs(is_name(thing), False, thing)

    def test_whatever_it_is(self):
        for thing in odd_things() + [("a",), ["a"], {"a": "a"}, ("a", "b"), 0, 1]:
            self.assertIs(is_name(thing), False, thing)


class Alike(unittest.TestCase):
    def test_by_name(self):
        self.assertIs(is_minute(thing=5), True)
        self.assertIs(is_order(thing=5), False)
        self.assertIs(is_name(thing="five"), True)

    def test_nothing_is_changed(self):
        for told in (is_minute, is_order, is_name):
            for thing in odd_things():
                kept = copy.deepcopy(thing)
                told(thing)
                self.assertEqual(thing, kept)


if __name__ == "__main__":
    unittest.main()
