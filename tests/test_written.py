"""Cards written out (26; 2 and 3 as far as they speak of them)."""

import copy
import unittest

from ringorders.cards import minutes_of
from ringorders.courses import course
from ringorders.effects import played
from ringorders.errors import Full, NoCard
from ringorders.logs import is_log
from ringorders.written import written_out
from tests.helper import (chances, deeds_by_words, each_way, is_card_by_words, odd_things, random_card,
                          random_table)

RING = ("ring", "port", 2)
WAIT = ("wait", 5)
MANOEUVRE = ("row", (("ring", "port", 1), WAIT, ("ring", "star", 1), ("wait", 2), ("ring", "port", 0)))
ROWS = [(0, "port", 1), (5, "star", 1), (7, "port", 0)]
MOST = 10 ** 9


def written_by_words(card, minute):
    """The rows that a card rings, minute by minute."""
    rows = []
    for deed in deeds_by_words(card):
        if deed is None:
            minute += 1
        else:
            rows.append((minute, *deed))
    return rows


class WrittenOut(unittest.TestCase):
    def test_ordinary(self):
        self.assertEqual(written_out(MANOEUVRE), ROWS)
        self.assertEqual(written_out(MANOEUVRE, 100), [(100, "port", 1), (105, "star", 1), (107, "port", 0)])
        twice = ROWS + [(7, "port", 1), (12, "star", 1), (14, "port", 0)]
        self.assertEqual(written_out(("again", 2, MANOEUVRE)), twice)
        self.assertEqual(written_out(RING, 9), [(9, "port", 2)])
        self.assertTrue(all(type(row) is tuple for row in written_out(MANOEUVRE)))

    def test_no_rings(self):
        for card in (WAIT, ("row", ()), ("again", 0, RING), ("again", MOST, WAIT), ("again", 0, MANOEUVRE)):
            for minute in (0, 5, 99999):
                self.assertEqual(written_out(card, minute), [])

    def test_forty_rows_and_forty_one(self):
        for card in (RING, ("row", (RING, ("wait", 1)))):
            self.assertEqual(len(written_out(("again", 40, card))), 40)
            with self.assertRaises(Full):
                written_out(("again", 41, card))
        forty = ("again", 40, RING)
        self.assertEqual(written_out(("row", (forty, WAIT, ("again", 0, RING)))), [(0, "port", 2)] * 40)
        with self.assertRaises(Full):
            written_out(("row", (forty, WAIT, RING)))
        self.assertEqual(len(written_out(("again", 5, ("again", 2, ("row", (RING,) * 4))))), 40)
        with self.assertRaises(Full):
            written_out(("again", 7, ("again", 2, ("row", (RING,) * 3))))

    def test_the_last_at_99999_and_one_later(self):
        self.assertEqual(written_out(RING, 99999), [(99999, "port", 2)])
        self.assertEqual(written_out(MANOEUVRE, 99992)[-1], (99999, "port", 0))
        with self.assertRaises(Full):
            written_out(MANOEUVRE, 99993)
        # What passes behind the last row is told nowhere.
        self.assertEqual(written_out(("row", (RING, ("again", MOST, ("wait", 999)))), 99999), [(99999, "port", 2)])
        for wait in (("wait", 1), ("again", MOST, ("again", MOST, ("wait", 999)))):
            with self.assertRaises(Full):
                written_out(("row", (RING, wait, RING)), 99999)

    def test_agains_that_ring_are_refused_at_once(self):
        for card in (RING, MANOEUVRE, ("again", MOST, RING), ("row", (WAIT, ("again", 0, RING), RING))):
            with self.assertRaises(Full):
                written_out(("again", MOST, card))
            with self.assertRaises(Full):
                written_out(("again", MOST, ("row", (WAIT, ("again", MOST, card)))))

    def test_agains_that_ring_nothing_are_passed_at_once(self):
        for many in (MOST, 100):
            passed = ("again", many, ("again", MOST, ("again", 0, RING)))
            self.assertEqual(written_out(("row", (passed, RING))), [(0, "port", 2)])
        passed = ("again", 9000, ("row", (("again", 0, RING), ("wait", 11))))
        self.assertEqual(written_out(("row", (RING, passed, RING))), [(0, "port", 2), (99000, "port", 2)])
        passed = ("again", 0, ("again", MOST, ("row", (RING, WAIT))))
        self.assertEqual(written_out(("again", 2, ("row", (passed, RING)))), [(0, "port", 2)] * 2)
        passed = ("row", (("again", MOST, ("row", ())), ("again", MOST, ("again", 0, WAIT))))
        self.assertEqual(written_out(("again", 40, ("row", (passed, RING)))), [(0, "port", 2)] * 40)

    def test_against_minute_by_minute(self):
        seen = set()
        for chance in chances(300, 261):
            card, minute = random_card(chance, 4, 4), chance.choice([0, 7, 99980])
            card = ("again", chance.choice([1, 1, 2, 30]), card)
            if is_card_by_words(card) and len(deeds_by_words(card)) < 900:
                rows = written_by_words(card, minute)
                if len(rows) <= 40 and (not rows or rows[-1][0] <= 99999):
                    self.assertEqual(written_out(card, minute), rows)
                    self.assertTrue(is_log(tuple(rows)))
                else:
                    with self.assertRaises(Full):
                        written_out(card, minute)
                seen.add((len(rows) > 40, bool(rows), bool(rows) and rows[-1][0] > 99999))
        self.assertTrue({(False, True, False), (False, False, False), (True, True, False), (False, True, True)} <= seen)

    def test_the_course_by_that_log_is_the_cards(self):
        many = 0
        for chance in chances(150, 262):
            card, minute = random_card(chance, 5, 3), chance.randint(0, 50)
            table = random_table(chance)
            table = table[:4] + (0,) + table[5:]
            ship = tuple(chance.randint(-99, 99) for _ in range(3))
            if is_card_by_words(card) and len(written_by_words(card, minute)) <= 40:
                log = tuple(written_out(card, minute))
                there, _ = played(card, table, (0, 0), ship, 5)
                self.assertEqual(course(log, table, ship, minute, minute + minutes_of(card), step=5), there)
                many += 1
        self.assertGreater(many, 100)

    def test_no_card_of_whatever_it_is(self):
        for thing in odd_things() + [("wait", 0), ["wait", 5], ("row", [RING]), ("row", (WAIT,) * 7), ("wait", True),
                                     ("again", MOST + 1, RING), ("row", (("row", (RING,) * 6),) * 5)]:
            with self.assertRaises(NoCard, msg=thing):
                written_out(thing)
            with self.assertRaises(NoCard, msg=thing):
                written_out(thing, 99999)

    def test_left_out_and_by_name(self):
        self.assertEqual(written_out(card=MANOEUVRE), ROWS)
        for told in each_way(written_out, [RING, 8], ["card", "minute"]):
            self.assertEqual(told, [(8, "port", 2)])

    def test_it_is_the_askers_own(self):
        card = copy.deepcopy(MANOEUVRE)
        told = written_out(card)
        told[0] = None
        told.append(None)
        self.assertEqual(written_out(card), ROWS)
        self.assertEqual(card, MANOEUVRE)


if __name__ == "__main__":
    unittest.main()
