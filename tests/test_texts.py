"""How minutes, orders, rows, logs and cards are written (30; 2 and 3 as far as they speak of them)."""

import copy
import unittest

from ringorders.texts import show_card, show_log, show_minute, show_order, show_row

ORDERS = {-4: "-full", -3: "-half", -2: "-slow", -1: "-dead", 0: "stop", 1: "+dead", 2: "+slow", 3: "+half", 4: "+full"}
MINUTES = {0: "00:00", 1: "00:01", 9: "00:09", 59: "00:59", 60: "01:00", 425: "07:05", 599: "09:59", 600: "10:00",
           1439: "23:59", 1440: "24:00", 5999: "99:59", 6000: "100:00", 59999: "999:59", 60000: "1000:00",
           99999: "1666:39"}
ROWS = {(425, "port", 3): "07:05 port +half", (0, "star", 0): "00:00 star stop",
        (99999, "aport", -4): "1666:39 aport -full", (600, "astar", -1): "10:00 astar -dead",
        (61, "down", "dora"): "01:01 down dora", (61, "up", "stop"): "01:01 up stop", (1, "up", "a"): "00:01 up a",
        (2, "down", "abcdefgh"): "00:02 down abcdefgh"}
MOST = 10 ** 9
CARDS = {("ring", "port", 3): "port +half", ("ring", "star", 0): "star stop", ("ring", "star", -1): "star -dead",
         ("wait", 1): "wait 1", ("wait", 999): "wait 999", ("row", ()): "()", ("row", (("wait", 5),)): "(wait 5)",
         ("row", (("ring", "port", 3), ("wait", 5), ("ring", "star", 0))): "(port +half; wait 5; star stop)",
         ("again", 3, ("row", (("ring", "port", 3), ("wait", 5)))): "3*(port +half; wait 5)",
         ("again", 0, ("wait", 5)): "0*wait 5", ("again", MOST, ("row", ())): "1000000000*()",
         ("again", 2, ("again", 10, ("ring", "port", -4))): "2*10*port -full",
         ("row", (("row", ()), ("row", (("row", ()),)), ("again", 1, ("row", ())))): "((); (()); 1*())",
         ("row", (("row", (("row", (("row", (("row", (("wait", 7),)),)),)),)),)): "(((((wait 7)))))",
         ("row", (("wait", 10),) * 6): "(wait 10; wait 10; wait 10; wait 10; wait 10; wait 10)"}


class Texts(unittest.TestCase):
    def test_minutes(self):
        for minute, text in MINUTES.items():
            self.assertEqual(show_minute(minute), text)

    def test_each_minute(self):
        self.assertEqual(len({show_minute(minute) for minute in range(100000)}), 100000)

    def test_orders(self):
        for order, text in ORDERS.items():
            self.assertEqual(show_order(order), text)

    def test_rows(self):
        for row, text in ROWS.items():
            self.assertEqual(show_row(row), text)
        for order, text in ORDERS.items():
            for line in ("port", "star", "aport", "astar"):
                self.assertEqual(show_row((0, line, order)), f"00:00 {line} {text}")

    def test_logs(self):
        self.assertEqual(show_log(()), "")
        self.assertEqual(show_log(((425, "port", 3),)), "07:05 port +half\n")
        self.assertEqual(show_log(((425, "port", 3), (425, "up", "ja"), (430, "aport", 0))),
                         "07:05 port +half\n07:05 up ja\n07:10 aport stop\n")
        self.assertEqual(show_log(((9, "star", -2),) * 40), "00:09 star -slow\n" * 40)

    def test_cards(self):
        for card, text in CARDS.items():
            self.assertEqual(show_card(card), text)

    def test_by_name(self):
        self.assertEqual(show_minute(minute=425), "07:05")
        self.assertEqual(show_order(order=-3), "-half")
        self.assertEqual(show_row(row=(425, "port", 3)), "07:05 port +half")
        self.assertEqual(show_log(log=()), "")
        self.assertEqual(show_card(card=("wait", 5)), "wait 5")

    def test_nothing_is_changed(self):
        card = ("again", 2, ("row", (("wait", 5), ("ring", "port", 1))))
        log = ((1, "up", "a"), (2, "port", 1))
        kept = copy.deepcopy((card, log))
        show_card(card)
        show_log(log)
        self.assertEqual((card, log), kept)


if __name__ == "__main__":
    unittest.main()
