"""What is read back of texts, and what is refused (31; 2 and 3 as far as they speak of them)."""

import itertools
import unittest

from ringorders.cards import is_card
from ringorders.errors import NoText, RingError
from ringorders.reader import read_card, read_log, read_minute, read_order, read_row
from ringorders.texts import show_card, show_log, show_minute, show_order, show_row
from tests.helper import LINES, alike, chances, is_card_by_words, odd_things, random_card, random_log
from tests.test_texts import CARDS, MINUTES, ORDERS, ROWS

READERS = (read_minute, read_order, read_row, read_log, read_card)
SIGNS = " \n0159:+-*;()apdnstwiorhlfu~A"


def spoiled(text):
    """Texts with one sign left out, put twice, put in or otherwise, or with something ahead of or behind the text."""
    for at in range(len(text) + 1):
        yield text[:at] + text[at + 1:]
        yield text[:at] + text[at:at + 1] + text[at:]
        for sign in SIGNS:
            yield text[:at] + sign + text[at:]
            yield text[:at] + sign + text[at + 1:]
    yield from (" " + text, text + " ", "\n" + text, text + "\n", text + text, text.upper(), text[::-1], "0" + text)


class Reading(unittest.TestCase):
    def refused(self, reader, text, at=None):
        with self.assertRaises(NoText, msg=text) as caught:
            reader(text)
        self.assertTrue(alike(caught.exception.at, at), (text, caught.exception.at, at))
        self.assertIsInstance(caught.exception, RingError)

    def only_what_is_so_written(self, reader, writer, texts):
        """Each text is refused, or it writes just what is read of it."""
        seen = set()
        for text in texts:
            try:
                self.assertEqual(writer(reader(text)), text)
                seen.add(True)
            except NoText as refusal:
                self.assertTrue(refusal.at is None or reader is read_log)
                seen.add(False)
        return seen

    def test_minutes(self):
        for minute, text in MINUTES.items():
            self.assertEqual(read_minute(text), minute)
        for minute in range(0, 100000, 7):
            self.assertEqual(read_minute(show_minute(minute)), minute)
        for text in ("", ":", "0:00", "1:05", "00:0", "00:000", "000:00", "007:05", "0100:00", "00:60", "07:99",
                     "1666:40", "1667:00", "9999:59", "10000:00", "00:00 ", " 00:00", "00 :00", "0000", "00:00:00",
                     "-01:00", "+1:00", "00:-1", "1e:00", "00:00\n", "\n00:00", "0x:00", "00.00", "00:1 ", "7:5", "::",
                     "00:", ":00", "9" * 4000 + ":00", "00:" + "9" * 4000, "9" * 4000, "00:0_", "1_0:00"):
            self.refused(read_minute, text)

    def test_orders(self):
        for order, text in ORDERS.items():
            self.assertEqual(read_order(text), order)
        for text in ("", "+stop", "-stop", "full", "half", "+", "-", "+Full", "STOP", "stop ", " stop", "+ half",
                     "half+", "--half", "+-half", "+halff", "0", "1", "+1", "-4", "stop\n", "+dead\n", "dead slow",
                     "+dead+dead"):
            self.refused(read_order, text)

    def test_rows(self):
        for row, text in ROWS.items():
            self.assertTrue(alike(read_row(text), row))
        for text in ("", " ", "  ", "07:05", "07:05 port", "07:05 port ", "07:05  port +half", "07:05 port  +half",
                     " 07:05 port +half", "07:05 port +half ", "07:05 port +half\n", "7:05 port +half",
                     "07:05 Port +half", "07:05 bridge +half", "07:05 port half", "07:05 port dora",
                     "07:05 down +half", "07:05 down Dora", "07:05 up abcdefghi", "07:05 up a1", "07:05 up ",
                     "07:05 up a b", "port 07:05 +half", "07:05 +half port", "1666:40 port stop", "07:05\nport\nstop",
                     "07:05 port stop\n07:05 port stop", "07:05 up -", "07:05 port 3"):
            self.refused(read_row, text)

    def test_logs(self):
        self.assertEqual(read_log(""), ())
        self.assertEqual(read_log("07:05 port +half\n"), ((425, "port", 3),))
        self.assertEqual(read_log("07:05 port +half\n07:05 up ja\n07:10 aport stop\n"),
                         ((425, "port", 3), (425, "up", "ja"), (430, "aport", 0)))
        self.assertEqual(read_log("00:09 star -slow\n" * 40), ((9, "star", -2),) * 40)

    def test_logs_refused_at_a_line(self):
        row = "07:05 port +half\n"
        for text, at in (("\n", 0), (" ", 0), ("x", 0), ("x\n", 0), (row[:-1], 0), (row + "\n", 1), ("\n" + row, 0),
                         (row + "\n" + row, 1), (row + row[:-1], 1), (row + "07:04 port stop\n", 1), (row + " ", 1),
                         (row + row + "07:04 port stop\n" + "x\n", 2), (row + "07:06 up a\n" + row, 2),
                         (row + " " + row, 1), (row[:-1] + " \n", 0), (row[:-1] + "\n\n" + row, 1),
                         (row * 40 + "\n", 40), (row * 41, 40), (row * 40 + "x", 40), (row * 40 + row[:-1], 40),
                         (row * 100, 40), (row * 39 + "x\n" + row * 5, 39), (row * 40 + "00:00 up a\n", 40),
                         (row * 39 + row[:-1], 39), ("x\n" * 41, 0), (row * 5 + "1", 5),
                         (row + "07:05 port half\n07:05 up", 1), (row + "07:05 up A\n", 1), ("07:05 up a\n\n\n", 1),
                         (row * 30 + "\n" * 30, 30)):
            self.refused(read_log, text, at)

    def test_cards(self):
        for card, text in CARDS.items():
            self.assertTrue(alike(read_card(text), card))

    def test_cards_refused(self):
        for text in ("", " ", "()(", "(", ")", "())", "(()", "( )", "(;)", "(; )", "(wait 5; )", "(; wait 5)",
                     "(wait 5;wait 5)", "(wait 5 ; wait 5)", "(wait 5;  wait 5)", "(wait 5; wait 5", "wait 5; wait 5",
                     "wait 5)", "wait", "wait ", "wait 0", "wait 05", "wait 1000", "wait -1", "wait +5", "wait  5",
                     "wait 5 ", " wait 5", "wait5", "Wait 5", "wait five", "port", "port ", "port half", "port  stop",
                     "port stop ", "aport stop", "down dora", "bridge stop", "3*", "*wait 5", "3 *wait 5", "3* wait 5",
                     "03*wait 5", "00*wait 5", "-1*wait 5", "+1*wait 5", "3**wait 5", "3*3", "3", "x*wait 5",
                     "1000000001*wait 5", "9999999999*wait 5", "10000000000*wait 5", "3(wait 5)", "3*(wait 5",
                     "(wait 5)*3", "wait 5*3", "wait 3*5", "(3*wait 5)(3*wait 5)", "wait 5\n", "\nwait 5",
                     "(wait 5;\nwait 5)", "[wait 5]", "(wait 5, wait 5)", "(port stop; ())x", "(wait 5; (wait 5); )",
                     "(" + "; ".join(["wait 5"] * 7) + ")", "wait " + "9" * 4000, "9" * 4000 + "*()", "9" * 4000,
                     "1*" * 2000):
            self.refused(read_card, text)

    def test_six_deep_and_seven(self):
        for inner in ("wait 5", "port stop", "()"):
            for open_, close in (("(", ")"), ("2*", ""), ("1000000000*", "")):
                self.assertTrue(is_card(read_card(open_ * 5 + inner + close * 5)))
                for deep in (6, 7, 50, 900):
                    self.refused(read_card, open_ * deep + inner + close * deep)
        inner = ("row", (("again", 4, ("row", ())),))
        self.assertEqual(read_card("2*(3*(4*()))"), ("again", 2, ("row", (("again", 3, inner),))))
        self.refused(read_card, "1*2*(3*(4*(wait 5)))")

    def test_nested_deeper_however_long(self):
        for text in ("(" * 3999, ")" * 3999, "(" * 2000 + ")" * 2000, "1*" * 1999 + "()", "(1*" * 1000 + ")" * 1000,
                     "(((((" + "; ".join(["()"] * 900), "(" * 100000, "1*" * 50000 + "()", "()" * 100000,
                     "(" + "; ".join(["wait 5"] * 100000) + ")"):
            self.refused(read_card, text)

    def test_thirty_cards_and_thirty_one(self):
        six = "(" + "; ".join(["wait 5"] * 6) + ")"
        self.assertTrue(is_card(read_card(f"({six}; {six}; {six}; {six}; wait 5)")))
        self.refused(read_card, f"({six}; {six}; {six}; {six}; wait 5; wait 5)")
        self.refused(read_card, f"({six}; {six}; {six}; {six}; 1*wait 5)")

    def test_what_is_no_text(self):
        for thing in odd_things() + [0, 425, b"00:00", ["00:00"], ("stop",), {"stop": 0}, ["", ""]]:
            if not isinstance(thing, str):
                for reader in READERS:
                    self.refused(reader, thing)

    def test_odd_texts(self):
        for thing in odd_things():
            if isinstance(thing, str):
                for reader in READERS:
                    if reader is not read_log:
                        self.refused(reader, thing)
                    elif thing:
                        self.refused(reader, thing, 0)

    def test_what_is_written_is_read_back(self):
        for chance in chances(150, 311):
            log = random_log(chance, LINES, 40, 99999, list(ORDERS))
            self.assertTrue(alike(read_log(show_log(log)), log))
            for row in log:
                self.assertTrue(alike(read_row(show_row(row)), row))
            card = random_card(chance, 6, 5)
            if is_card_by_words(card):
                self.assertTrue(alike(read_card(show_card(card)), card))
            else:
                self.refused(read_card, show_card(card))
        for order in ORDERS:
            self.assertTrue(alike(read_order(show_order(order)), order))

    def test_spoiled_texts(self):
        for reader, writer, texts in (
                (read_minute, show_minute, ["00:00", "07:05", "1666:39"]),
                (read_order, show_order, list(ORDERS.values())), (read_row, show_row, list(ROWS.values())),
                (read_card, show_card, list(CARDS.values())),
                (read_log, show_log, ["07:05 port +half\n07:05 up ja\n07:10 aport stop\n"])):
            for text in texts:
                self.assertEqual(self.only_what_is_so_written(reader, writer, spoiled(text)), {True, False})

    def test_short_texts_of_all_signs(self):
        for signs, many, reader, writer in ((":0159", 5, read_minute, show_minute),
                                            ("()*1; ", 6, read_card, show_card)):
            texts = ["".join(text) for length in range(many + 1) for text in itertools.product(signs, repeat=length)]
            self.assertEqual(self.only_what_is_so_written(reader, writer, texts), {True, False})

    def test_by_name(self):
        self.assertEqual(read_minute(text="07:05"), 425)
        self.assertEqual(read_order(text="-half"), -3)
        self.assertEqual(read_row(text="07:05 port +half"), (425, "port", 3))
        self.assertEqual(read_log(text=""), ())
        self.assertEqual(read_card(text="wait 5"), ("wait", 5))


if __name__ == "__main__":
    unittest.main()
