"""The classes of ringorders/errors.py: what they stand under, and their fields."""

import unittest

from ringorders import errors

WITH_TEXT = ("NoPair", "NoCard", "NoStretch", "NoRow", "Taken", "NoLine")
UNDER_RING_ERROR = WITH_TEXT + ("NoLog", "NoText")
APART = {"Unknown": KeyError, "NoNumber": IndexError, "Nothing": IndexError, "Full": OverflowError,
         "Late": LookupError}
ALL = UNDER_RING_ERROR + tuple(APART)


def named(name):
    return getattr(errors, name)


class Bases(unittest.TestCase):
    def test_ring_error(self):
        self.assertTrue(issubclass(errors.RingError, ValueError))
        self.assertEqual(str(errors.RingError("so")), "so")

    def test_those_under_ring_error(self):
        for name in UNDER_RING_ERROR:
            self.assertTrue(issubclass(named(name), errors.RingError), name)

    def test_the_last_five_stand_under_their_own_base_and_not_under_ring_error(self):
        for name, base in APART.items():
            self.assertTrue(issubclass(named(name), base), name)
            self.assertFalse(issubclass(named(name), ValueError), name)
            self.assertFalse(issubclass(named(name), errors.RingError), name)

    def test_late_is_caught_as_lookup_error_alone(self):
        self.assertFalse(issubclass(errors.Late, (KeyError, IndexError)))

    def test_none_stands_under_another_one(self):
        for name in ALL:
            for other in ALL:
                if name != other:
                    self.assertFalse(issubclass(named(name), named(other)), (name, other))

    def test_ring_error_stands_under_none_of_them(self):
        for name in ALL:
            self.assertFalse(issubclass(errors.RingError, named(name)), name)


class Fields(unittest.TestCase):
    def test_at(self):
        for name in ("NoLog", "NoText"):
            for at in (None, 0, 7, 40):
                self.assertEqual(named(name)(at).at, at)
                self.assertEqual(named(name)(at=at).at, at)

    def test_name(self):
        for name in ("engine", "", 3, None, True, 10 ** 99, ("a", 1), [[]], {"a": []}):
            self.assertEqual(errors.Unknown(name).name, name)
            self.assertEqual(errors.Unknown(name=name).name, name)

    def test_number(self):
        for number in (0, 999):
            self.assertEqual(errors.Late(number).number, number)
            self.assertEqual(errors.Late(number=number).number, number)

    def test_two_of_them_keep_apart(self):
        one, other = errors.NoLog(1), errors.NoLog(2)
        self.assertEqual((one.at, other.at), (1, 2))

    def test_made_with_a_text(self):
        for name in WITH_TEXT + ("NoNumber", "Nothing", "Full"):
            self.assertIn("so it is", str(named(name)("so it is")))

    def test_each_is_raised_and_caught_by_its_name(self):
        for name in ALL:
            with self.assertRaises(named(name)):
                raise named(name)("x")


if __name__ == "__main__":
    unittest.main()
