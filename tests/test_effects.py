"""What cards do when they are played (25; 2 and 3 as far as they speak of them)."""

import copy
import unittest

from ringorders.effects import effect, played
from ringorders.errors import NoCard
from tests.helper import (TABLE, chances, deeds_by_words, each_way, is_card_by_words, minute_by_words, odd_things,
                          random_card, random_table)

RING = ("ring", "port", 2)
WAIT = ("wait", 5)
EMPTY = ("row", ())
MANOEUVRE = ("row", (("ring", "port", 1), WAIT, ("ring", "star", 1), ("wait", 2), ("ring", "port", 0)))
MOST = 10 ** 9
NO_CARDS = [("wait", 0), ("wait", 1000), ("wait", True), ["wait", 5], ("row", [WAIT]), ("row", (WAIT,) * 7),
            ("again", MOST + 1, WAIT), ("again", -1, WAIT), ("ring", "port", 5), ("ring", "down", 1),
            ("row", (("row", (WAIT,) * 6),) * 5)]


def played_by_words(card, table, orders, ship, step):
    """(ship, orders) behind a card, minute by minute."""
    standing = {"port": orders[0], "star": orders[1]}
    for deed in deeds_by_words(card):
        if deed is None:
            ship = minute_by_words(ship, table[standing["port"] + 4], table[standing["star"] + 4], step)
        else:
            standing[deed[0]] = deed[1]
    return (ship, (standing["port"], standing["star"]))


def effect_by_words(card, table, orders, step):
    """(orders, minutes, moves) of a card, minute by minute from each swing."""
    moves = []
    for swing in range(8 * step):
        (x, y, later), behind = played_by_words(card, table, orders, (0, 0, swing), step)
        moves.append((x, y, later - swing))
    return (behind, deeds_by_words(card).count(None), tuple(moves))


def behind(one, other):
    """The effect of two cards, one behind the other, by their effects."""
    moves = []
    for swing, (x, y, much) in enumerate(one[2]):
        more = other[2][(swing + much) % len(other[2])]
        moves.append((x + more[0], y + more[1], much + more[2]))
    return (other[0], one[1] + other[1], tuple(moves))


class Effect(unittest.TestCase):
    def test_ordinary(self):
        orders, minutes, moves = effect(MANOEUVRE, TABLE, (0, 0), 12)
        self.assertEqual((orders, minutes, len(moves)), ((0, 1), 7, 96))
        # Five minutes of 40 turns on port alone, her swing from 0 to 200; then two minutes of both along heading 0.
        self.assertEqual(moves, effect_by_words(MANOEUVRE, TABLE, (0, 0), 12)[2])
        self.assertEqual(moves[0][2], 200)

    def test_a_ring(self):
        for engine, order, behind_it in (("port", 3, (3, -1)), ("star", 3, (2, 3)), ("port", 2, (2, -1)),
                                         ("star", 0, (2, 0))):
            for step in (1, 6, 12):
                self.assertEqual(effect(("ring", engine, order), TABLE, (2, -1), step),
                                 (behind_it, 0, ((0, 0, 0),) * (8 * step)))

    def test_a_wait(self):
        for many in (1, 2, 7, 999):
            told = effect(("wait", many), TABLE, (1, 1), 6)
            self.assertEqual(told[:2], ((1, 1), many))
            self.assertEqual(told[2][0], (0, 80 * many, 0))
            self.assertEqual(told[2][6], (80 * many, 80 * many, 0))
            self.assertEqual(told[2][47], (-80 * many, 80 * many, 0))

    def test_cards_that_do_nothing(self):
        for card in (EMPTY, ("row", (EMPTY, EMPTY)), ("again", 0, WAIT), ("again", 0, RING), ("again", MOST, EMPTY),
                     ("again", MOST, ("again", 0, ("again", MOST, WAIT)))):
            self.assertEqual(effect(card, TABLE, (3, -3), 2), ((3, -3), 0, ((0, 0, 0),) * 16))

    def test_kinds(self):
        for card in (RING, WAIT, EMPTY, MANOEUVRE, ("again", 3, MANOEUVRE), ("again", 0, WAIT)):
            orders, minutes, moves = effect(card, TABLE, (0, 0), 3)
            self.assertEqual((type(orders), type(minutes), type(moves)), (tuple, int, tuple))
            self.assertTrue(all(type(move) is tuple and len(move) == 3 for move in moves))

    def test_steps_of_1_and_12_and_those_between(self):
        for step in (1, 2, 5, 6, 11, 12):
            told = effect(MANOEUVRE, TABLE, (0, 0), step)
            self.assertEqual(len(told[2]), 8 * step)
            self.assertEqual(told, effect_by_words(MANOEUVRE, TABLE, (0, 0), step))

    def test_orders_that_stand(self):
        for port in range(-4, 5):
            for star in range(-4, 5):
                for card in (WAIT, ("row", (("wait", 1), RING, ("wait", 2)))):
                    self.assertEqual(effect(card, TABLE, (port, star), 3),
                                     effect_by_words(card, TABLE, (port, star), 3))

    def test_a_card_that_rings_played_again(self):
        # Only the first time other orders stand ahead of the card.
        card = ("row", (("wait", 3), ("ring", "port", 1), ("wait", 1)))
        for many in range(6):
            for orders in ((0, 0), (1, 0), (-2, 3)):
                told = effect(("again", many, card), TABLE, orders, 4)
                self.assertEqual(told, effect_by_words(("again", many, card), TABLE, orders, 4))

    def test_against_minute_by_minute(self):
        seen = set()
        for chance in chances(200, 251):
            card = random_card(chance, 5, 4)
            table, step = random_table(chance), chance.choice([1, 2, 6, 12])
            orders = (chance.randint(-4, 4), chance.randint(-4, 4))
            if is_card_by_words(card) and len(deeds_by_words(card)) < 300:
                self.assertEqual(effect(card, table, orders, step), effect_by_words(card, table, orders, step))
                seen.add(card[0])
        self.assertEqual(seen, {"ring", "wait", "row", "again"})

    def test_agains_against_those_halved(self):
        for chance in chances(30, 252):
            card, step = random_card(chance, 4, 4), chance.choice([1, 5, 12])
            table, orders = random_table(chance), (chance.randint(-4, 4), chance.randint(-4, 4))
            for many in (2, 3, 7, 1000, 10 ** 6 + 1, MOST):
                one = effect(("again", many // 2, card), table, orders, step)
                other = effect(("again", many - many // 2, card), table, one[0], step)
                self.assertEqual(effect(("again", many, card), table, orders, step), behind(one, other))

    def test_agains_within_one_another(self):
        for chance in chances(30, 253):
            card, step = random_card(chance, 3, 4), chance.choice([1, 5, 12])
            table, orders = random_table(chance), (chance.randint(-4, 4), chance.randint(-4, 4))
            for one, other in ((2, 3), (10 ** 4, 10 ** 5), (10 ** 3, 10 ** 6)):
                self.assertEqual(effect(("again", one, ("again", other, card)), table, orders, step),
                                 effect(("again", one * other, card), table, orders, step))

    def test_agains_of_10_to_the_9th_in_ordinary_time(self):
        card = ("wait", 999)
        for deep in range(1, 6):
            card = ("again", MOST, card)
            orders, minutes, moves = effect(card, TABLE, (1, 1), 12)
            self.assertEqual((orders, minutes), ((1, 1), 999 * 10 ** (9 * deep)))
            self.assertEqual(moves[95], (-80 * minutes, 80 * minutes, 0))
        # She turns by 40 a minute: with a step of 5 she comes round in each minute, and goes the same way.
        self.assertEqual(effect(card, TABLE, (1, 0), 5)[2][0], (0, 40 * minutes, 40 * minutes))
        for ring in (("ring", "port", 0), ("ring", "star", 1)):
            rows = ("row", (ring,) + (("wait", 999),) * 5)
            card = ("again", MOST, ("again", MOST, ("row", (("again", MOST, rows), ring, ("again", MOST, rows)))))
            orders, minutes, moves = effect(card, TABLE, (1, 0), 12)
            self.assertEqual(minutes, 2 * 4995 * 10 ** 27)
            self.assertEqual(orders, (0, 0) if ring[1] == "port" else (1, 1))
        six = ("row", (("wait", 999),) * 6)
        card = ("again", MOST, ("again", MOST, ("row", (("again", MOST, six),) * 3)))
        self.assertEqual(effect(card, TABLE, (-1, 2), 12)[1], 3 * 5994 * 10 ** 27)

    def test_rings_within_agains_of_0_times(self):
        card = ("again", MOST, ("row", (("again", 0, RING), WAIT, ("again", MOST, ("again", 0, RING)))))
        self.assertEqual(effect(card, TABLE, (1, 1)), effect(("again", MOST, WAIT), TABLE, (1, 1)))

    def test_no_card_of_whatever_it_is(self):
        for thing in odd_things() + NO_CARDS:
            with self.assertRaises(NoCard, msg=thing):
                effect(thing, TABLE, (0, 0))
            with self.assertRaises(NoCard, msg=thing):
                played(thing, TABLE, (0, 0), (0, 0, 0), 12)

    def test_left_out_and_by_name(self):
        self.assertEqual(effect(MANOEUVRE, TABLE, (0, 0)), effect(MANOEUVRE, TABLE, (0, 0), 6))
        wanted = effect_by_words(MANOEUVRE, TABLE, (1, 0), 5)
        for told in each_way(effect, [MANOEUVRE, TABLE, (1, 0), 5], ["card", "table", "orders", "step"]):
            self.assertEqual(told, wanted)

    def test_nothing_is_changed(self):
        values = (("again", 3, MANOEUVRE), TABLE, (1, -1))
        kept = copy.deepcopy(values)
        effect(*values)
        played(*values, (1, 2, 3))
        self.assertEqual(values, kept)


class Played(unittest.TestCase):
    def test_ordinary(self):
        self.assertEqual(played(("wait", 3), TABLE, (1, 1), (5, 6, 0)), ((5, 246, 0), (1, 1)))
        self.assertEqual(played(("row", (RING, ("wait", 1))), TABLE, (0, 0), (5, 6, 0)), ((5, 66, 60), (2, 0)))
        self.assertEqual(played(EMPTY, TABLE, (1, 1), (5, 6, 7)), ((5, 6, 7), (1, 1)))
        told = played(MANOEUVRE, TABLE, (0, 0), (0, 0, 0))
        self.assertEqual((type(told), type(told[0]), type(told[1])), (tuple, tuple, tuple))

    def test_swings_below_0_and_beyond_a_round(self):
        for step in (1, 6, 12):
            for swing in list(range(-9 * step, 18 * step)) + [10 ** 29, -(10 ** 29), 10 ** 30 - 1]:
                ship = (4, -5, swing)
                self.assertEqual(played(MANOEUVRE, TABLE, (0, 0), ship, step),
                                 played_by_words(MANOEUVRE, TABLE, (0, 0), ship, step))

    def test_by_its_effect(self):
        for step in (1, 7, 12):
            orders, _, moves = effect(MANOEUVRE, TABLE, (1, -1), step)
            for swing in range(8 * step):
                for more in (-8 * step, 0, 80 * step):
                    x, y, much = moves[swing]
                    self.assertEqual(played(MANOEUVRE, TABLE, (1, -1), (9, 8, swing + more), step),
                                     ((9 + x, 8 + y, swing + more + much), orders))

    def test_against_minute_by_minute(self):
        for chance in chances(200, 254):
            card = random_card(chance, 5, 4)
            ship = tuple(chance.randint(-999, 999) for _ in range(3))
            table, step = random_table(chance), chance.choice([1, 2, 6, 12])
            orders = (chance.randint(-4, 4), chance.randint(-4, 4))
            if is_card_by_words(card) and len(deeds_by_words(card)) < 900:
                self.assertEqual(played(card, table, orders, ship, step),
                                 played_by_words(card, table, orders, ship, step))

    def test_agains_of_10_to_the_9th_in_ordinary_time(self):
        card = ("again", MOST, ("again", MOST, ("row", (("ring", "port", 1), ("ring", "star", 1), ("wait", 999)))))
        self.assertEqual(played(card, TABLE, (0, 0), (1, 2, 0), 12), ((1, 2 + 80 * 999 * 10 ** 18, 0), (1, 1)))
        ship = (10 ** 30 - 1, 1 - 10 ** 30, 12)
        self.assertEqual(played(card, TABLE, (0, 0), ship, 12)[0],
                         (ship[0] + 80 * 999 * 10 ** 18, ship[1] + 80 * 999 * 10 ** 18, 12))

    def test_left_out_and_by_name(self):
        ship = (0, 0, 5)
        self.assertEqual(played(("wait", 1), TABLE, (1, 1), ship), ((0, 80, 5), (1, 1)))
        self.assertEqual(played(("wait", 1), TABLE, (1, 1), ship, step=5), ((80, 80, 5), (1, 1)))
        names = ["card", "table", "orders", "ship", "step"]
        for told in each_way(played, [("wait", 1), TABLE, (1, 1), ship, 5], names):
            self.assertEqual(told, ((80, 80, 5), (1, 1)))


if __name__ == "__main__":
    unittest.main()
