"""Headings, and where a ship is behind so many minutes (21; 2 and 3 as far as they speak of them)."""

import unittest

from ringorders.ships import heading, sail
from tests.helper import chances, each_way

ALONG = [(0, 1), (1, 1), (1, 0), (1, -1), (0, -1), (-1, -1), (-1, 0), (-1, 1)]
FAR = 10 ** 30 - 1
STEPS = (1, 2, 7, 12, 45, 60)
NAMES = ["ship", "port", "star", "minutes", "step"]


def one_minute(ship, port, star, step):
    """Where a ship is one minute later, by the document's words."""
    x, y, swing = ship
    along = ALONG[(swing // step) % 8]
    return (x + (port + star) * along[0], y + (port + star) * along[1], swing + port - star)


def one_minute_back(ship, port, star, step):
    """Where a ship was one minute ahead: the swing is known, and with it the way that she went."""
    x, y, swing = ship
    was = one_minute((0, 0, swing - port + star), port, star, step)
    return (x - was[0], y - was[1], swing - port + star)


def by_minutes(ship, port, star, minutes, step):
    """Where a ship is, minute by minute, forward or back."""
    for _ in range(abs(minutes)):
        ship = (one_minute if minutes > 0 else one_minute_back)(ship, port, star, step)
    return ship


class Heading(unittest.TestCase):
    def test_edges(self):
        for step in STEPS:
            for number in range(-20, 20):
                for swing in {number * step, number * step + step - 1}:
                    self.assertEqual(heading(swing, step), number % 8)

    def test_below_0(self):
        self.assertEqual([heading(swing) for swing in (-1, -45, -46, -360, -361, -315, -316)], [7, 7, 6, 0, 7, 1, 0])

    def test_great_swings(self):
        for step in STEPS:
            for rounds in (10 ** 27, -(10 ** 27)):
                for number in range(8):
                    swing = rounds * 8 * step + number * step
                    self.assertEqual(heading(swing, step), number)
                    self.assertEqual(heading(swing - 1, step), (number - 1) % 8)
        self.assertEqual(heading(FAR, 1), FAR % 8)

    def test_left_out_and_by_name(self):
        self.assertEqual([heading(swing) for swing in (0, 44, 45, 359, 360)], [0, 0, 1, 7, 0])
        self.assertEqual(heading(90), heading(90, 45))
        for told in each_way(heading, [90, 30], ["swing", "step"]):
            self.assertEqual(told, 3)


class Sail(unittest.TestCase):
    def test_ordinary(self):
        self.assertEqual(sail((0, 0, 0), 10, 10, 5), (0, 100, 0))
        self.assertEqual(sail((3, 4, 90), 10, 20, 1), (33, 4, 80))
        self.assertEqual(sail((0, 0, 40), 5, 0, 3), (10, 15, 55))
        self.assertEqual(sail((0, 0, 0), 1, 0, -1), (1, -1, -1))

    def test_each_heading(self):
        for number, (x, y) in enumerate(ALONG):
            for swing in (45 * number, 45 * number + 44, 45 * number - 360, 45 * number - 316):
                self.assertEqual(sail((7, -7, swing), 3, 3, 4), (7 + 24 * x, -7 + 24 * y, swing))
                self.assertEqual(sail((7, -7, swing), -3, -3, 4), (7 - 24 * x, -7 - 24 * y, swing))

    def test_no_minutes(self):
        for ship in ((0, 0, 0), (5, -6, 77), (FAR, -FAR, FAR)):
            for port, star in ((0, 0), (999, -999), (-4, 4), (1, 2)):
                told = sail(ship, port, star, 0)
                self.assertEqual(told, ship)
                self.assertIs(type(told), tuple)

    def test_no_turns(self):
        for minutes in (1, -1, FAR, -FAR):
            self.assertEqual(sail((1, 2, 3), 0, 0, minutes), (1, 2, 3))

    def test_turning_on_the_spot(self):
        for minutes in (1, -1, 7, FAR, -FAR):
            self.assertEqual(sail((1, 2, 3), 999, -999, minutes), (1, 2, 3 + 1998 * minutes))
            self.assertEqual(sail((1, 2, 3), -5, 5, minutes), (1, 2, 3 - 10 * minutes))

    def test_straight_on_however_far(self):
        self.assertEqual(sail((0, 0, 45), 999, 999, FAR), (1998 * FAR, 1998 * FAR, 45))
        self.assertEqual(sail((0, 0, 45), 999, 999, -FAR), (-1998 * FAR, -1998 * FAR, 45))
        self.assertEqual(sail((FAR, -FAR, -1), -1, -1, FAR), (3 * FAR, -3 * FAR, -1))

    def test_at_whole_rounds_and_one_beside(self):
        for step in STEPS:
            # Her swing grows by 1, so that a round of headings is 8 * step minutes, behind which she is where she was.
            around = 8 * step
            for rounds in (1, -1, 10 ** 27, -(10 ** 27)):
                ship = (5, 6, 7)
                there = (5, 6, 7 + rounds * around)
                self.assertEqual(sail(ship, 3, 2, rounds * around, step), there)
                self.assertEqual(sail(ship, 3, 2, rounds * around + 1, step), one_minute(there, 3, 2, step))
                self.assertEqual(sail(ship, 3, 2, rounds * around - 1, step), one_minute_back(there, 3, 2, step))

    def test_rounds_that_do_not_come_back_to_the_place(self):
        # Her swing grows by four headings a minute: to and fro, once each in two minutes.
        self.assertEqual(sail((0, 0, 0), 4, 0, 2, 1), (0, 0, 8))
        self.assertEqual(sail((0, 0, 0), 4, 0, 2 * 10 ** 29 + 1, 1), (0, 4, 8 * 10 ** 29 + 4))
        # By eight headings a minute she goes straight on.
        self.assertEqual(sail((0, 0, 2), 8, 0, 10 ** 29, 1), (8 * 10 ** 29, 0, 2 + 8 * 10 ** 29))
        self.assertEqual(sail((0, 0, 2), 8, 0, -(10 ** 29), 1), (-8 * 10 ** 29, 0, 2 - 8 * 10 ** 29))

    def test_minute_by_minute_forward_and_back(self):
        for chance in chances(150, 111):
            step = chance.choice(STEPS)
            ship = tuple(chance.randint(-500, 500) for _ in range(3))
            widest = chance.choice([3, 50, 999])
            port, star = chance.randint(-widest, widest), chance.randint(-widest, widest)
            for minutes in (1, -1, 2, -2, chance.randint(3, 600), -chance.randint(3, 600)):
                told = sail(ship, port, star, minutes, step)
                self.assertEqual(told, by_minutes(ship, port, star, minutes, step))

    def test_every_minute_of_some_hundred(self):
        for step in (1, 45, 60):
            for port, star in ((1, 0), (-7, 4), (999, -998), (-999, 999), (2, 5)):
                forward = back = (11, -12, -13)
                for minutes in range(1, 500):
                    forward, back = one_minute(forward, port, star, step), one_minute_back(back, port, star, step)
                    self.assertEqual(sail((11, -12, -13), port, star, minutes, step), forward)
                    self.assertEqual(sail((11, -12, -13), port, star, -minutes, step), back)

    def test_back_and_forth_of_thirty_figures(self):
        for chance in chances(60, 112):
            step = chance.randint(1, 60)
            ship = tuple(chance.randint(-FAR, FAR) for _ in range(3))
            port, star = chance.randint(-999, 999), chance.randint(-999, 999)
            minutes, more = chance.randint(-FAR, FAR), chance.randint(-300, 300)
            there = sail(ship, port, star, minutes, step)
            self.assertEqual(there[2], ship[2] + minutes * (port - star))
            self.assertEqual(sail(there, port, star, -minutes, step), ship)
            self.assertEqual(by_minutes(there, port, star, more, step), sail(ship, port, star, minutes + more, step))

    def test_swings_at_the_edges_of_headings(self):
        for step in STEPS:
            for swing in (-8 * step, -8 * step - 1, -step, -step - 1, -1, 0, step - 1, step, 8 * step - 1, 8 * step):
                for port, star in ((1, 0), (0, 1), (step, 0), (0, step), (5, 5)):
                    for minutes in (1, 2, -1, -2, 9, -9):
                        self.assertEqual(sail((0, 0, swing), port, star, minutes, step),
                                         by_minutes((0, 0, swing), port, star, minutes, step))

    def test_left_out_and_by_name(self):
        self.assertEqual(sail((0, 0, 44), 1, 0, 2), sail((0, 0, 44), 1, 0, 2, 45))
        self.assertEqual(sail((0, 0, 44), 1, 0, 2), (1, 2, 46))
        for told in each_way(sail, [(0, 0, 44), 1, 0, 2, 44], NAMES):
            self.assertEqual(told, (2, 2, 46))


if __name__ == "__main__":
    unittest.main()
