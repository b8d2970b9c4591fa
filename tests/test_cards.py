"""Cards, and how many minutes pass while they are played (24, 25; 2 and 3 as far as they speak of them)."""

import copy
import unittest

from ringorders.cards import is_card, minutes_of
from ringorders.errors import NoCard
from tests.helper import (chances, deeds_by_words, is_card_by_words, odd_things, otherwise, random_card)

RING = ("ring", "port", 2)
WAIT = ("wait", 5)
EMPTY = ("row", ())
MANOEUVRE = ("again", 3, ("row", (RING, WAIT, ("ring", "star", 0))))


def within(card, many):
    """A card within so many rows."""
    for _ in range(many):
        card = ("row", (card,))
    return card


def played_again(card, many, times=2):
    """A card within so many agains."""
    for _ in range(many):
        card = ("again", times, card)
    return card


# Each of the four rows within has six waits: 1 + 4 * 7 + 1 cards are thirty.
THIRTY = ("row", tuple(("row", (WAIT,) * 6) for _ in range(4)) + (WAIT,))
DEEP = within(WAIT, 5)
ALL = [RING, WAIT, EMPTY, MANOEUVRE, THIRTY, DEEP, within(EMPTY, 5), played_again(RING, 5), ("wait", 1), ("wait", 999),
       ("again", 0, WAIT), ("again", 1, WAIT), ("again", 10 ** 9, WAIT), ("row", (WAIT,) * 6), ("ring", "star", -4),
       ("ring", "star", 4), ("ring", "port", 0), ("again", 0, EMPTY), ("row", (EMPTY,) * 6)]


class IsCard(unittest.TestCase):
    def test_ordinary(self):
        for card in ALL:
            self.assertIs(is_card(card), True, card)

    def test_rings(self):
        for card in (("ring", "port", 5), ("ring", "port", -5), ("ring", "aport", 1), ("ring", "down", 1),
                     ("ring", "", 1), ("ring", None, 1), ("ring", "port", None), ("ring", "port", "1"),
                     ("ring", "port", True), ("ring", "port", False), ("ring", "port"), ("ring", "port", 1, 1),
                     ("ring",), ("Ring", "port", 1), ["ring", "port", 1], ("ring", ["port"], 1), ("ring", "port", [1]),
                     ("ring", "port", (1,)), ("ring", {}, 1), ("ring", "port", {}), ("ring", "port", 10 ** 99),
                     (None, "port", 1), ("bell", "port", 1), (("ring",), "port", 1), ("ring", ("port", 1))):
            self.assertIs(is_card(card), False, card)

    def test_waits(self):
        for many in (1, 2, 998, 999):
            self.assertIs(is_card(("wait", many)), True)
        for many in (0, -1, 1000, 10 ** 99, -(10 ** 99), True, False, None, "5", (5,), [5], {}, ()):
            self.assertIs(is_card(("wait", many)), False, many)
        for card in (("wait",), ("wait", 5, 5), ["wait", 5], "wait", ("wait", 5, None)):
            self.assertIs(is_card(card), False, card)

    def test_rows_of_six_and_of_seven(self):
        for many in range(10):
            self.assertIs(is_card(("row", (WAIT,) * many)), many <= 6)
            self.assertIs(is_card(("row", (EMPTY,) * many)), many <= 6)
        for cards in ([], [WAIT], WAIT, None, "", "wait", {}, 0, True, (None,), (WAIT, None), (WAIT, [RING]), ((),),
                      (["wait", 5],), ("wait", 5)):
            self.assertIs(is_card(("row", cards)), False, cards)
        for card in (("row",), ("row", WAIT, RING), ("row", (WAIT,), (RING,)), ["row", (WAIT,)]):
            self.assertIs(is_card(card), False, card)

    def test_agains(self):
        for many in (0, 1, 2, 10 ** 9 - 1, 10 ** 9):
            self.assertIs(is_card(("again", many, WAIT)), True)
        for many in (-1, 10 ** 9 + 1, 10 ** 99, True, False, None, "3", [3], (3,), {}):
            self.assertIs(is_card(("again", many, WAIT)), False, many)
        for card in (("again", 3), ("again", WAIT, 3), ("again", 3, WAIT, WAIT), ("again", 3, None),
                     ("again", 3, (WAIT,)), ("again", 3, list(WAIT)), ["again", 3, WAIT], ("again", 0, None),
                     ("again", 0, ("wait", 0))):
            self.assertIs(is_card(card), False, card)

    def test_six_deep_and_seven(self):
        for card in (RING, WAIT, EMPTY):
            for many in range(9):
                self.assertIs(is_card(within(card, many)), many <= 5)
                self.assertIs(is_card(played_again(card, many)), many <= 5)
                self.assertIs(is_card(played_again(within(card, many // 2), many - many // 2)), many <= 5)
        # As deep as the deepest within.
        self.assertIs(is_card(("row", (RING, within(RING, 4), RING))), True)
        self.assertIs(is_card(("row", (RING, within(RING, 5), RING))), False)
        self.assertIs(is_card(within(("row", (RING, RING)), 4)), True)
        self.assertIs(is_card(("again", 0, within(RING, 5))), False)

    def test_thirty_cards_and_thirty_one(self):
        six = ("row", (WAIT,) * 6)
        self.assertIs(is_card(("row", (six, six, six, six, WAIT))), True)
        self.assertIs(is_card(("row", (six, six, six, six, WAIT, WAIT))), False)
        self.assertIs(is_card(("row", (six, six, six, six, ("again", 0, WAIT)))), False)
        self.assertIs(is_card(("again", 3, ("row", (six, six, six, six)))), True)
        self.assertIs(is_card(played_again(("row", (six, six, six, six)), 2)), False)
        self.assertIs(is_card(("again", 10 ** 9, ("row", (six, six, six, ("row", (EMPTY,) * 6))))), True)
        self.assertIs(is_card(("row", (six, six, six, six, EMPTY))), True)
        self.assertIs(is_card(("row", (six, six, six, six, ("row", (EMPTY,))))), False)

    def test_whatever_it_is(self):
        for thing in odd_things():
            self.assertIs(is_card(thing), False, thing)
            for card in (("ring", thing, 1), ("ring", "port", thing), ("wait", thing), ("row", thing),
                         ("again", thing, WAIT), ("again", 3, thing), (thing, 5), (thing, "port", 1),
                         ("row", (WAIT, thing))):
                self.assertIs(is_card(card), is_card_by_words(card), card)

    def test_a_great_heap_of_cards_in_ordinary_time(self):
        heap = WAIT
        for _ in range(11):
            heap = ("row", (heap,) * 6)
            self.assertIs(is_card(heap), heap == ("row", (WAIT,) * 6))
        self.assertIs(is_card(("row", (WAIT,) * 900)), False)

    def test_one_thing_otherwise(self):
        seen = set()
        for card in (MANOEUVRE, DEEP, ("again", 2, THIRTY[1][0]), THIRTY):
            for thing in otherwise(card):
                wanted = is_card_by_words(thing)
                self.assertIs(is_card(thing), wanted, thing)
                seen.add(wanted)
        self.assertEqual(seen, {True, False})

    def test_by_chance(self):
        seen = set()
        for chance in chances(300, 241):
            card = random_card(chance, 8, 5)
            wanted = is_card_by_words(card)
            self.assertIs(is_card(card), wanted, card)
            seen.add(wanted)
        self.assertEqual(seen, {True, False})

    def test_by_name(self):
        self.assertIs(is_card(thing=RING), True)
        self.assertIs(is_card(thing=None), False)

    def test_nothing_is_changed(self):
        for thing in odd_things() + ALL:
            kept = copy.deepcopy(thing)
            is_card(thing)
            self.assertEqual(thing, kept)


class MinutesOf(unittest.TestCase):
    def test_ordinary(self):
        for card, minutes in ((RING, 0), (WAIT, 5), (("wait", 999), 999), (EMPTY, 0), (MANOEUVRE, 15), (THIRTY, 125),
                              (("row", (WAIT, RING, ("wait", 7))), 12), (("again", 0, WAIT), 0),
                              (("again", 1, WAIT), 5)):
            self.assertEqual(minutes_of(card), minutes)

    def test_agains_within_one_another(self):
        self.assertEqual(minutes_of(("again", 10 ** 9, WAIT)), 5 * 10 ** 9)
        self.assertEqual(minutes_of(played_again(("wait", 999), 5, 10 ** 9)), 999 * 10 ** 45)
        self.assertEqual(minutes_of(("again", 10 ** 9, ("again", 0, ("again", 10 ** 9, WAIT)))), 0)
        self.assertEqual(minutes_of(("again", 10 ** 9, ("row", (played_again(RING, 3, 10 ** 9), WAIT)))), 5 * 10 ** 9)

    def test_against_minute_by_minute(self):
        for chance in chances(200, 242):
            card = random_card(chance)
            if is_card_by_words(card):
                self.assertEqual(minutes_of(card), deeds_by_words(card).count(None))

    def test_no_card_of_whatever_it_is(self):
        for thing in odd_things() + [within(WAIT, 6), ("row", (WAIT,) * 7), THIRTY + (1,), ("row", THIRTY[1] + (WAIT,)),
                                     ("wait", 0), ("wait", True), ["wait", 5], ("again", 10 ** 9 + 1, WAIT)]:
            with self.assertRaises(NoCard, msg=thing):
                minutes_of(thing)

    def test_by_name(self):
        self.assertEqual(minutes_of(card=MANOEUVRE), 15)


if __name__ == "__main__":
    unittest.main()
