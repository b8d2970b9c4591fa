"""What became of the rows on a bell, and the rows on a dial that answer wrongly, by one log (8; 3 of them)."""

import unittest

from ringorders.answers import answers, wrong_answers
from tests.helper import chances, each_way, random_log

LOG = ((0, "port", 2), (1, "aport", 2), (1, "port", 3), (1, "port", 3), (2, "astar", 3), (2, "aport", 1),
       (3, "aport", 3), (3, "star", 0), (4, "down", "a"), (5, "port", -1), (6, "aport", 1), (7, "astar", 0))


def became_by_words(log, engine, number):
    """What became of a row: the rows behind it that matter, of which the first counts."""
    order = log[number][2]
    behind = [(at, "taken" if row[1] == engine else "answered") for at, row in enumerate(log)
              if at > number and (row[1] == engine or row[1:] == ("a" + engine, order))]
    return (number, behind[0][1], behind[0][0]) if behind else (number, "open", None)


class Answers(unittest.TestCase):
    def test_ordinary(self):
        self.assertEqual(answers(LOG, "port"), [(0, "answered", 1), (2, "taken", 3), (3, "answered", 6),
                                                (9, "open", None)])
        self.assertEqual(answers(LOG, "star"), [(7, "answered", 11)])

    def test_no_rows(self):
        self.assertEqual(answers((), "port"), [])
        self.assertEqual(answers(((0, "aport", 1), (1, "star", 1), (2, "up", "a")), "port"), [])

    def test_open(self):
        self.assertEqual(answers(((0, "port", 1),), "port"), [(0, "open", None)])
        self.assertEqual(answers(((0, "aport", 1), (0, "port", 1)), "port"), [(1, "open", None)])
        self.assertEqual(answers(((0, "port", 1), (1, "aport", 0)), "port"), [(0, "open", None)])

    def test_taken_back_with_whatever_order(self):
        for order in range(-4, 5):
            self.assertEqual(answers(((0, "port", 1), (0, "port", order), (1, "aport", 1)), "port")[0],
                             (0, "taken", 1))

    def test_another_engine_takes_and_answers_nothing(self):
        log = ((0, "port", 1), (0, "star", 2), (0, "astar", 1), (0, "aport", 1))
        self.assertEqual(answers(log, "port"), [(0, "answered", 3)])
        self.assertEqual(answers(log, "star"), [(1, "open", None)])

    def test_a_dial_with_another_order_is_passed(self):
        self.assertEqual(answers(((0, "star", 1), (1, "astar", -1), (2, "astar", 0), (3, "astar", 1)), "star"),
                         [(0, "answered", 3)])
        self.assertEqual(answers(((0, "star", 0), (1, "astar", 1), (2, "star", 1), (3, "astar", 0)), "star"),
                         [(0, "taken", 2), (2, "open", None)])

    def test_stop_is_answered_by_stop(self):
        self.assertEqual(answers(((5, "port", 0), (5, "aport", 0)), "port"), [(0, "answered", 1)])

    def test_numbers_not_minutes_tell_what_is_behind(self):
        log = ((5, "aport", 1), (5, "port", 1), (5, "port", 2), (5, "aport", 2))
        self.assertEqual(answers(log, "port"), [(1, "taken", 2), (2, "answered", 3)])

    def test_one_dial_answers_the_last_ring_alone(self):
        log = ((5, "port", 1), (6, "port", 1), (7, "aport", 1), (8, "aport", 1))
        self.assertEqual(answers(log, "port"), [(0, "taken", 1), (1, "answered", 2)])

    def test_forty_rows(self):
        log = ((0, "port", 1),) * 40
        self.assertEqual(answers(log, "port"), [(k, "taken", k + 1) for k in range(39)] + [(39, "open", None)])
        far = ((0, "port", 1),) + ((0, "aport", 2),) * 38 + ((0, "aport", 1),)
        self.assertEqual(answers(far, "port"), [(0, "answered", 39)])

    def test_by_name(self):
        for told in each_way(answers, [LOG, "star"], ["log", "engine"]):
            self.assertEqual(told, [(7, "answered", 11)])

    def test_what_is_told_is_the_askers_own(self):
        told = answers(LOG, "star")
        self.assertIs(type(told), list)
        self.assertIs(type(told[0]), tuple)
        told.append(None)
        self.assertEqual(answers(LOG, "star"), [(7, "answered", 11)])

    def test_by_chance(self):
        for chance in chances(300, 4):
            log = random_log(chance, ("port", "aport", "port", "aport", "star", "astar", "up"), 12, 6)
            for engine in ("port", "star"):
                told = answers(log, engine)
                self.assertEqual(told, [became_by_words(log, engine, number) for number, row in enumerate(log)
                                        if row[1] == engine])


class WrongAnswers(unittest.TestCase):
    def test_ordinary(self):
        self.assertEqual(wrong_answers(LOG, "port"), [5, 10])
        self.assertEqual(wrong_answers(LOG, "star"), [4])

    def test_no_rows(self):
        self.assertEqual(wrong_answers((), "port"), [])
        self.assertEqual(wrong_answers(((0, "port", 1), (1, "astar", 1)), "port"), [])

    def test_nothing_was_rung(self):
        self.assertEqual(wrong_answers(((0, "aport", 0), (0, "port", 0), (0, "aport", 0)), "port"), [0])
        self.assertEqual(wrong_answers(((0, "star", 1), (0, "aport", 1)), "port"), [1])

    def test_what_was_rung_last_counts(self):
        log = ((0, "port", 1), (0, "port", 2), (1, "aport", 1), (1, "aport", 2), (2, "aport", 2), (3, "star", 3),
               (3, "aport", 3), (3, "aport", 2))
        self.assertEqual(wrong_answers(log, "port"), [2, 6])

    def test_a_wrong_answer_changes_nothing(self):
        self.assertEqual(wrong_answers(((0, "star", 0), (1, "astar", 2), (2, "astar", 2), (3, "astar", 0)), "star"),
                         [1, 2])

    def test_forty_rows(self):
        self.assertEqual(wrong_answers(((0, "astar", 0),) * 40, "star"), list(range(40)))

    def test_by_name(self):
        for told in each_way(wrong_answers, [LOG, "port"], ["log", "engine"]):
            self.assertEqual(told, [5, 10])

    def test_what_is_told_is_the_askers_own(self):
        wrong_answers(LOG, "port").append(0)
        self.assertEqual(wrong_answers(LOG, "port"), [5, 10])
        self.assertIs(type(wrong_answers(LOG, "port")), list)

    def test_by_chance(self):
        for chance in chances(300, 5):
            log = random_log(chance, ("port", "aport", "star", "astar", "up"), 12, 6)
            wanted = []
            for number, (_, line, what) in enumerate(log):
                ahead = [row[2] for row in log[:number] if row[1] == "port"]
                if line == "aport" and (not ahead or ahead[-1] != what):
                    wanted.append(number)
            self.assertEqual(wrong_answers(log, "port"), wanted)


if __name__ == "__main__":
    unittest.main()
