"""A desk: its lines and answers, and what is refused, in which order (33; 2 and 3 as far as they speak of it)."""

import copy
import unittest

from ringorders.apart import apart
from ringorders.courses import course
from ringorders.desk import Desk
from ringorders.effects import played
from ringorders.errors import Full, Late, NoLine, NoNumber, NoStretch, NoText, Nothing, RingError, Taken, Unknown
from ringorders.reader import read_card
from ringorders.standing import standing
from ringorders.texts import show_card, show_log, show_minute, show_order
from ringorders.turns import turns
from ringorders.watch import Watch
from tests.helper import TABLE, alike, chances, each_way, is_card_by_words, odd_things, random_card
from tests.watches import ANSWERS, ROWS

FAR = "9" * 30
NINES = int(FAR)
# How each line is told, with words that are let by on a desk with these rows.
GOOD = ("tell bridge 70 00:09 up a", "drop room 15", "back", "again", "log room", "best", "lot", "ring 10", "forget 10",
        "stands bridge port 00:00", "apart port 0 20", "turns room star 0 20", "place bridge 0 0 0 0 20",
        "play 0 0 0 (port +half; wait 5)")
NO_WHOLES = ("", "-0", "00", "01", "-01", "+1", "1.0", "1_0", "x", "-", "--1", "1-", "0x1", "1e3", "\n1", "1\n", "True",
             "None", "1,0", "9" * 31, "-" + "9" * 31, "1" * 3900, "0" * 31, "-" + "0" * 30)
NO_HOUSES = ("", "Bridge", "rooms", "bridge,", "port", "0", "-", "bridgeroom", "None", "\n", "bridge\n", "x" * 3900)


def word_of(row):
    """A row's words."""
    return f"{show_minute(row[0])} {row[1]} {row[2] if row[1] in ('up', 'down') else show_order(row[2])}"


def desk_of(rows, lag=1, low=0, high=9, step=45):
    """A desk that was told these rows."""
    desk = Desk(TABLE, lag, low, high, step)
    for house, number, row in rows:
        desk.say(f"tell {house} {number} {word_of(row)}")
    return desk


def refusal_of(deed, *values):
    """What a deed is refused with, and its fields."""
    try:
        deed(*values)
    except (RingError, KeyError, IndexError, OverflowError, LookupError) as refusal:
        return (type(refusal), [getattr(refusal, name) for name in ("at", "name", "number") if hasattr(refusal, name)])
    return None


class Answers(unittest.TestCase):
    def test_tell_drop_back_and_again(self):
        desk = Desk(TABLE, 1, 0, 9)
        self.assertEqual(desk.say("tell bridge 10 00:00 port +dead"), "ok")
        self.assertEqual(desk.say("tell bridge 30 00:05 star +slow"), "ok")
        self.assertEqual((desk.say("ring 30"), desk.say("ring 10")), ("never", "never"))
        self.assertEqual(desk.say("tell room 5 00:03 port +dead"), "ok 10")
        self.assertEqual(desk.say("back"), "ok 10")
        self.assertEqual(desk.say("again"), "ok 10")
        self.assertEqual(desk.say("drop bridge 30"), "ok 30")
        self.assertEqual(desk.say("back"), "ok 30")
        self.assertEqual(desk.say("drop room 5"), "ok 10")
        self.assertEqual(desk.say("tell room 9 00:08 star +slow"), "ok 30")
        self.assertEqual(desk.say("tell room 5 00:03 port +dead"), "ok 10")
        self.assertEqual(desk.say("drop bridge 10"), "ok 10")
        self.assertEqual(desk.say("tell bridge 10 00:00 down dora"), "ok")
        self.assertEqual(desk.say("forget 10"), "ok")
        self.assertEqual(desk.say("back"), "ok")
        self.assertEqual(desk.say("back"), "ok")
        self.assertEqual(desk.say("tell room 6 00:08 down stop"), "ok")
        self.assertEqual(desk.say("log room"), "00:03 port +dead\n00:08 down stop\n00:08 star +slow")

    def test_several_numbers(self):
        desk = Desk(TABLE, 0, 0, 30)
        for line in ("tell bridge 0 00:00 port +dead", "tell bridge 1 00:09 port +dead", "tell room 0 00:00 port +dead",
                     "tell room 1 00:20 port +dead", "tell room 500 00:22 up a"):
            self.assertEqual(desk.say(line), "ok")
        self.assertEqual((desk.say("ring 1"), desk.say("ring 0")), ("never", "taken 0 1"))
        self.assertEqual(desk.say("tell bridge 7 00:11 up a"), "ok 0 1")
        self.assertEqual(desk.say("best"), "11 1:1 2:2")

    def test_logs_best_and_lot(self):
        desk = Desk(TABLE, 1, 2, 9)
        self.assertEqual([desk.say(line) for line in ("log bridge", "log room", "best", "lot")], ["-", "-", "2", "0"])
        self.assertEqual(Desk(TABLE, 0, -7, 9).say("best"), "-7")
        desk = desk_of(ROWS)
        for house in ("bridge", "room"):
            log = tuple(row for of, _, row in ROWS if of == house)
            self.assertEqual(desk.say(f"log {house}") + "\n", show_log(log))
        self.assertEqual(desk.say("best"), "3 0:0 1:1 2:2 4:4 5:5")
        self.assertEqual(desk.say("lot"), "2")

    def test_rings(self):
        desk = desk_of(ROWS)
        for number, answer in ANSWERS.items():
            self.assertEqual(desk.say(f"ring {number}"), " ".join(str(part) for part in answer))
        self.assertEqual(desk.say("drop bridge 20"), "ok 10")
        self.assertEqual(desk.say("ring 10"), "answered 5 7 -")
        self.assertEqual(desk.say("forget 10"), "ok")
        self.assertEqual(desk.say("back"), "ok")

    def test_stands(self):
        desk = desk_of(ROWS)
        for line, answer in (("stands bridge port 00:00", "+dead"), ("stands bridge port 00:08", "+dead"),
                             ("stands bridge port 00:09", "+half"), ("stands bridge star 00:04", "-"),
                             ("stands bridge star 00:05", "+slow"), ("stands bridge star 1666:39", "-slow"),
                             ("stands room port 00:02", "-"), ("stands room port 00:03", "+dead"),
                             ("stands room star 00:09", "+dead")):
            self.assertEqual(desk.say(line), answer)
        desk.say("tell bridge 999 02:00 port stop")
        self.assertEqual(desk.say("stands bridge port 02:00"), "stop")

    def test_apart(self):
        desk = desk_of(ROWS)
        self.assertEqual(desk.say("apart star 0 100000"), "6:100000")
        self.assertEqual(desk.say("apart port 0 100000"), "-")
        self.assertEqual(desk.say("apart star 0 6"), "-")
        self.assertEqual(desk.say("apart star 7 9"), "7:9")
        self.assertEqual(desk.say("apart star 7 7"), "-")
        desk.say("drop room 13")
        desk.say("tell room 16 00:14 port +half")
        desk.say("tell room 18 00:20 port stop")
        self.assertEqual(desk.say("apart port 0 100000"), "9:11 17:100000")

    def test_turns(self):
        desk = desk_of(ROWS)
        # 40 a minute from 0 to 9, then 80; nothing stands on star till 5, then 60 for a minute, then -50.
        for line, answer in (("turns bridge port 0 9", "360"), ("turns bridge port 0 11", "520"),
                             ("turns bridge star 0 5", "0"), ("turns bridge star 0 7", "10"),
                             ("turns room port 0 3", "0"), ("turns room port 0 4", "40"), ("turns room star 5 5", "0"),
                             ("turns bridge star 7 9", "-100")):
            self.assertEqual(desk.say(line), answer)
        self.assertEqual(desk.say(f"turns bridge port 0 {FAR}"), str(9 * 40 + (NINES - 9) * 80))

    def test_place(self):
        desk = desk_of(ROWS)
        self.assertEqual(desk.say("place bridge 0 0 0 0 3"), "40 120 120")
        self.assertEqual(desk.say("place room 0 0 0 0 3"), "40 120 120")
        self.assertEqual(desk.say("place room 7 -8 -9 2 2"), "7 -8 -9")
        bridge = tuple(row for of, _, row in ROWS if of == "bridge")
        room = tuple(row for of, _, row in ROWS if of == "room")
        for first, last in ((0, 0), (0, 4), (3, 12), (5, 1000), (0, NINES)):
            for ship in ((0, 0, 0), (5, -7, -100), (NINES, -NINES, NINES)):
                told = " ".join(str(part) for part in ship)
                for house, log, d in (("bridge", bridge, 0), ("room", room, 3)):
                    for step in (1, 45, 60):
                        wanted = course(log, TABLE, ship, first, last, d, step)
                        desk = desk_of(ROWS, step=step)
                        self.assertEqual(desk.say(f"place {house} {told} {first} {last}"), "{} {} {}".format(*wanted))

    def test_play(self):
        desk = desk_of(ROWS, step=6)
        self.assertEqual(desk.say("play 0 0 0 port +half"), "0 0 0 +half stop")
        self.assertEqual(desk.say("play 0 0 0 ()"), "0 0 0 stop stop")
        self.assertEqual(desk.say("play 5 -6 -7 (port +dead; star +dead; wait 3)"), "-235 -6 -7 +dead +dead")
        self.assertEqual(desk.say("play 1 2 0 1000000000*1000000000*(port -slow; star -slow; wait 999)"),
                         f"1 {2 - 100 * 999 * 10 ** 18} 0 -slow -slow")
        for chance in chances(60, 331):
            card, step = random_card(chance, 5, 4), chance.choice([1, 6, 12])
            if is_card_by_words(card):
                ship = (chance.randint(-9, 9), NINES, -chance.randint(0, 999))
                there, orders = played(card, TABLE, (0, 0), ship, step)
                told = Desk(TABLE, step=step).say("play {} {} {} ".format(*ship) + show_card(card))
                self.assertEqual(told, "{} {} {} ".format(*there) + " ".join(show_order(order) for order in orders))

    def test_as_the_watch_and_the_functions_do(self):
        for chance in chances(25, 332):
            stretch = (chance.randint(0, 3), -chance.randint(0, 3), chance.randint(0, 3))
            desk, watch = Desk(TABLE, *stretch, step=chance.choice([1, 12])), Watch(*stretch)
            for _ in range(50):
                line, deed = self.line(chance, watch, desk.step)
                wanted = refusal_of(deed)
                if wanted is None:
                    self.assertEqual(desk.say(line), deed.answer, line)
                else:
                    self.assertEqual(refusal_of(desk.say, line), wanted, line)
                self.assertEqual([desk.say(f"log {house}") for house in ("bridge", "room")],
                                 [show_log(watch.log(house))[:-1] or "-" for house in ("bridge", "room")])

    def line(self, chance, watch, step):
        """A line by chance, and the deed that it stands for: called, it keeps what is to be answered."""
        house, engine = chance.choice(["bridge", "room"]), chance.choice(["port", "star"])
        number, minute = chance.randint(0, 12), chance.randint(0, 20)
        row = (minute // 2 + number, chance.choice(["port", "aport", "star", "up"]), chance.randint(0, 1))
        row = row[:2] + ("a",) if row[1] == "up" else row
        first, last = minute, chance.choice([minute, minute + 9, minute - 3])
        ok = lambda told: " ".join(["ok"] + [str(part) for part in told])
        d = lambda of: 0 if of == "bridge" else watch.best()[0]

        def minutes(many=10 ** 30):
            if not 0 <= first <= last <= many:
                raise NoNumber("no minutes")

        def place():
            minutes()
            return "{} {} {}".format(*course(watch.log(house), TABLE, (1, 2, 3), first, last, d(house), step))

        def apart_then():
            minutes(100000)
            told = apart(watch.log("bridge"), watch.log("room"), engine, watch.best()[0], first, last)
            return " ".join(f"{start}:{end}" for start, end in told) or "-"

        def turned():
            minutes()
            return str(turns(watch.log(house), engine, TABLE, first, last))

        def stood():
            order = standing(watch.log(house), engine, minute)
            return "-" if order is None else show_order(order)

        def answered():
            return " ".join("-" if part is None else str(part) for part in watch.ask(number))

        def best():
            d_best, joined = watch.best()
            return " ".join([str(d_best)] + [f"{b}:{r}" for b, r in joined])

        tell = (f"tell {house} {number} {word_of(row)}", lambda: ok(watch.tell(house, number, row)))
        told = chance.choice([tell] * 8 + [
            (f"drop {house} {number}", lambda: ok(watch.drop(house, number))), ("back", lambda: ok(watch.back())),
            ("again", lambda: ok(watch.again())), ("best", best), ("lot", lambda: str(watch.lot())),
            (f"ring {number}", answered), (f"ring {number}", answered),
            (f"forget {number}", lambda: ok(watch.forget(number) or [])),
            (f"stands {house} {engine} {show_minute(minute)}", stood), (f"apart {engine} {first} {last}", apart_then),
            (f"turns {house} {engine} {first} {last}", turned), (f"place {house} 1 2 3 {first} {last}", place)])

        def deed():
            deed.answer = told[1]()
        return told[0], deed

    def test_left_out_and_by_name(self):
        self.assertEqual(Desk(TABLE).say("best"), "0")
        self.assertEqual(Desk(TABLE, low=-5).say(line="best"), "-5")
        self.assertEqual(Desk(table=TABLE, high=7, lag=1).say("lot"), "0")
        desk = Desk(TABLE)
        desk.say("tell bridge 0 00:00 port +dead")
        self.assertEqual(desk.say("place bridge 0 0 0 0 2"), "0 80 80")
        self.assertEqual(refusal_of(desk.say, "play 0 0 0 ()"), (NoNumber, []))
        for desk in each_way(Desk, [TABLE, 1, -2, 3, 6], ["table", "lag", "low", "high", "step"]):
            self.assertEqual(desk.say("best"), "-2")
            self.assertEqual(desk.say("play 0 0 6 (port +dead; star +dead; wait 1)"), "80 80 6 +dead +dead")

    def test_two_desks_keep_apart(self):
        one, other = desk_of(ROWS), desk_of(ROWS[:3])
        one.say("drop bridge 10")
        self.assertEqual(other.say("ring 10"), "never")


class Refused(unittest.TestCase):
    def setUp(self):
        self.desk = desk_of(ROWS, step=6)
        self.desk.say("ring 10")
        self.desk.say("ring 30")
        self.desk.say("tell room 999 00:12 up neu")
        self.desk.say("back")

    def tearDown(self):
        """Whatever was refused in a test has changed nothing."""
        desk = desk_of(ROWS, step=6)
        for line in ("log bridge", "log room", "best", "lot"):
            self.assertEqual(self.desk.say(line), desk.say(line))
        self.assertEqual(self.desk.say("again"), "ok")
        self.assertEqual(self.desk.say("drop room 11"), "ok 30")
        self.assertEqual(self.desk.say("drop room 5"), "ok 10")

    def refused(self, line, kind, *fields):
        self.assertTrue(alike(refusal_of(self.desk.say, line), (kind, list(fields))),
                        (line, refusal_of(self.desk.say, line)))

    def test_no_stretch(self):
        for values in ((61,), (-1,), (0, 1, 0), (0, 0, 241), (0, -1441, -1441), (True,), ("0",), (None,), (0, [], 0),
                       (0, 0, {})):
            with self.assertRaises(NoStretch):
                Desk(TABLE, *values)

    def test_good_lines_are_let_by(self):
        for line in GOOD:
            desk = desk_of(ROWS, step=6)
            desk.say("ring 10")
            desk.say("drop room 15")
            if line != "back":
                desk.say("back")
            self.assertIs(type(desk.say(line)), str)

    def test_no_line_of_what_is_no_text(self):
        for thing in odd_things() + [7, b"best", ["best"], ("best",), {"best": 1}, ["tell", "bridge"], TABLE]:
            self.refused(thing, NoLine)

    def test_no_line_by_the_first_word(self):
        for line in ("", " ", "x", "Best", "BEST", "best\n", "\nbest", "telling bridge 0 00:00 port stop",
                     "log\nbridge", "lots", "tell\tbridge", "say best", "- best", "ask 10", "house", "asked", "twin",
                     "bestlot", "0", "ok"):
            self.refused(line, NoLine)

    def test_no_line_by_how_many_words(self):
        for line in GOOD:
            words = line.split(" ")
            if words[0] != "play":
                for many in range(len(words)):
                    self.refused(" ".join(words[:many]), NoLine)
                for more in ("", " ", "x", "0", "x y", "\n"):
                    self.refused(line + " " + more, NoLine)
            self.refused(" " + line, NoLine)
            if len(words) > 1:
                self.refused(line.replace(" ", "\n"), NoLine)
        for line in ("play", "play 0", "play 0 0", "play 0 0 0", "play ", "play 0 0 ", "play 0  0", "play   "):
            self.refused(line, NoLine)

    def test_two_blanks_and_one_at_an_end_make_a_word_without_signs(self):
        for line in ("best ", " best", "lot  ", "back ", "log bridge ", "ring 10 ", "log  bridge", "ring  10",
                     "forget  10", "drop  room 5", "drop room  5", "stands bridge port 00:00 "):
            self.refused(line, NoLine)
        for line in ("ring ", "forget ", "drop room ", "stands bridge port ", "apart port 0 ", "turns bridge port  5",
                     "place bridge 0 0 0 0 ", "tell room 4 00:00 port ", "tell room 4  port stop",
                     "tell room 4 00:00  stop", "play 0 0 0 ", "play  0 0 ()", "play 0  0 ()", "play 0 0 0  ()",
                     "play 0 0 0 () "):
            self.refused(line, NoText, None)
        for line in ("log ", "drop  5", "stands  port 00:00", "turns  port 0 5", "place  0 0 0 0 5",
                     "tell  4 00:00 port stop"):
            self.refused(line, Unknown, "")

    def test_no_text_of_numbers(self):
        for word in NO_WHOLES:
            for line in ("drop room {}", "ring {}", "forget {}", "apart port {} 5", "apart port 0 {}",
                         "turns bridge port {} 5", "turns bridge port 0 {}", "place room {} 0 0 0 5",
                         "place room 0 {} 0 0 5", "place room 0 0 {} 0 5", "place room 0 0 0 {} 5",
                         "place room 0 0 0 0 {}", "play {} 0 0 ()", "play 0 {} 0 ()", "play 0 0 {} ()",
                         "tell room {} 00:00 port stop"):
                self.refused(line.format(word), NoText, None)

    def test_numbers_of_thirty_figures_and_thirty_one(self):
        for word, number in ((FAR, NINES), ("-" + FAR, -NINES)):
            self.refused("ring " + word, Unknown, number)
            self.refused("forget " + word, Unknown, number)
            self.refused("drop room " + word, NoNumber)
            self.refused(f"tell room {word} 00:00 port stop", NoNumber)
            self.assertEqual(self.desk.say(f"place bridge {word} {word} {word} 0 0"), f"{number} {number} {number}")
            self.assertEqual(self.desk.say(f"play {word} {word} {word} ()"), f"{number} {number} {number} stop stop")
            for line in ("ring {}9", "place bridge {}0 0 0 0 0", "turns bridge port 0 {}1", "play 0 0 {}1 ()"):
                self.refused(line.format(word), NoText, None)

    def test_no_text_of_the_other_kinds(self):
        for line in ("tell room 4 0:00 port stop", "tell room 4 00:60 port stop", "tell room 4 1666:40 port stop",
                     "tell room 4 0 port stop", "tell room 4 00:00 Port stop", "tell room 4 00:00 bridge stop",
                     "tell room 4 00:00 port half", "tell room 4 00:00 port dora", "tell room 4 00:00 port 1",
                     "tell room 4 00:00 down +half", "tell room 4 00:00 up Dora", "tell room 4 00:00 up abcdefghi",
                     "stands room aport 00:00", "stands room down 00:00", "stands room Port 00:00",
                     "stands room port 0:00", "stands room port 5", "apart aport 0 5", "apart up 0 5", "apart 0 0 5",
                     "turns room astar 0 5", "turns room bridge 0 5", "play 0 0 0 wait 0", "play 0 0 0 wait 5; wait 5",
                     "play 0 0 0 x", "play 0 0 0 (wait 5;wait 5)", "play 0 0 0 2*", "play 0 0 0 port +half ",
                     "play 0 0 0 wait 5\n", "play 0 0 0 " + "(" * 3900, "play 0 0 0 " + "1*" * 1900 + "()",
                     "play 0 0 0 ((((((wait 5))))))"):
            self.refused(line, NoText, None)

    def test_no_text_goes_ahead_of_unknown(self):
        for house in NO_HOUSES + ("bridge",):
            for line in ("tell {} 00 00:00 port stop", "tell {} 0 0:00 port stop", "tell {} 0 00:00 port half",
                         "drop {} -0", "stands {} aport 00:00", "stands {} port 1", "turns {} up 0 5",
                         "turns {} port 00 5", "turns {} port 0 x", "place {} 0 0 0 0 -0", "place {} x 0 0 0 5"):
                self.refused(line.format(house), NoText, None)

    def test_unknown_houses_ahead_of_no_number(self):
        for house in NO_HOUSES:
            for line in ("tell {} 4 00:00 port stop", "tell {} 1000 00:00 port stop", "drop {} 5", "drop {} -1",
                         "log {}", "stands {} port 00:00", "turns {} port 0 5", "turns {} port -1 -5",
                         "place {} 0 0 0 0 5", "place {} 0 0 0 9 5"):
                self.refused(line.format(house), Unknown, house)

    def test_no_number(self):
        for line in ("apart port -1 5", "apart port 0 100001", "apart port 6 5", "apart port 100001 100001",
                     "apart port -2 -1", "apart port 0 -1", f"apart port 0 {FAR}", "turns room port -1 5",
                     "turns room port 6 5", "turns room port 0 -1", f"turns room port -{FAR} 0",
                     "place room 0 0 0 -1 5", "place room 0 0 0 6 5", "place bridge 0 0 0 0 -1",
                     f"place bridge 0 0 0 {FAR} 0", "tell room -1 00:00 port stop", "tell room 1000 00:00 port stop",
                     "drop room 6", "drop bridge 5", "drop room -1", "drop room 1000"):
            self.refused(line, NoNumber)
        for line, answer in (("apart port 0 0", "-"), ("apart port 100000 100000", "-"), ("turns room port 0 0", "0"),
                             ("place room 1 2 3 7 7", "1 2 3")):
            self.assertEqual(self.desk.say(line), answer)

    def test_a_step_of_12_and_of_13(self):
        self.assertEqual(Desk(TABLE, step=12).say("play 0 0 0 ()"), "0 0 0 stop stop")
        for step in (13, 45, 60):
            desk = Desk(TABLE, step=step)
            self.assertEqual(refusal_of(desk.say, "play 0 0 0 ()"), (NoNumber, []))
            self.assertEqual(refusal_of(desk.say, "play 0 0 0 (wait 0)"), (NoText, [None]))
            self.assertEqual(refusal_of(desk.say, "play 0 0 -0 ()"), (NoText, [None]))

    def test_as_the_stages_refuse(self):
        for line, kind, *fields in (
                ("tell room 5 00:00 port stop", Taken), ("tell bridge 15 00:02 port stop", Late, 20),
                ("tell room 6 00:02 port stop", Late, 5), ("tell room 6 00:05 port stop", Late, 7),
                ("ring 20", Unknown, 20), ("ring 11", Unknown, 11), ("ring -1", Unknown, -1),
                ("ring 1000", Unknown, 1000), ("forget 40", Unknown, 40), ("forget 20", Unknown, 20),
                ("forget -5", Unknown, -5), ("forget 0", Unknown, 0)):
            self.refused(line, kind, *fields)

    def test_nothing_and_full(self):
        desk = Desk(TABLE)
        for line in ("back", "again"):
            self.assertEqual(refusal_of(desk.say, line), (Nothing, []))
        for number in range(40):
            desk.say(f"tell room {number} 00:00 up a")
        self.assertEqual(refusal_of(desk.say, "tell room 40 00:00 up a"), (Full, []))
        self.assertEqual(refusal_of(desk.say, "tell room 39 00:00 up a"), (Taken, []))
        self.assertEqual(desk.say("tell bridge 40 00:00 up a"), "ok")

    def test_a_cards_text_has_blanks(self):
        text = "2*(port +half; wait 5; star -dead; 3*(wait 1; star stop))"
        (x, y, swing), orders = played(read_card(text), TABLE, (0, 0), (4, 5, 6), 6)
        self.assertEqual(self.desk.say("play 4 5 6 " + text), f"{x} {y} {swing} +half stop")
        self.assertEqual(orders, (3, 0))

    def test_nothing_is_changed(self):
        for thing in odd_things():
            kept = copy.deepcopy(thing)
            refusal_of(self.desk.say, thing)
            self.assertEqual(thing, kept)


if __name__ == "__main__":
    unittest.main()
