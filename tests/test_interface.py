"""The interface: where each name is defined, and by which names its arguments are handed in (2)."""

import importlib
import inspect
import unittest

FUNCTIONS = {
    "things": {"is_minute": "(thing)", "is_order": "(thing)", "is_name": "(thing)"},
    "rows": {"is_row": "(thing)", "row_of": "(thing)", "sent_from": "(line)", "dial_of": "(engine)"},
    "logs": {"is_log": "(thing)", "log_of": "(rows)", "rows_on": "(log, line)",
             "rows_between": "(log, first=0, last=99999)"},
    "standing": {"standing": "(log, line, minute, none=None)", "steps": "(log, line)"},
    "apart": {"apart": "(bridge, room, engine, d=0, first=0, last=100000)"},
    "answers": {"answers": "(log, engine)", "wrong_answers": "(log, engine)"},
    "pairs": {"is_pair": "(bridge, room, thing)", "span": "(bridge, room, pair, lag=0)",
              "pairs_at": "(bridge, room, d=0, lag=0)"},
    "clashes": {"clash": "(bridge, room, one, other, lag=0, low=0, high=0)"},
    "joinings": {"joining": "(bridge, room, d=0, lag=0)", "is_joining": "(bridge, room, thing, d=0, lag=0)"},
    "counts": {"counts": "(bridge, room, lag=0, low=0, high=0)", "best": "(bridge, room, lag=0, low=0, high=0)"},
    "papers": {"best_paper": "(bridge, room, lag=0, low=0, high=0)",
               "is_best": "(bridge, room, thing, lag=0, low=0, high=0)"},
    "sure": {"sure_words": "(bridge, room, d=0, lag=0)", "joined_with": "(bridge, room, pair, d=0, lag=0)",
             "joined_without": "(bridge, room, pair, d=0, lag=0)"},
    "shown": {"shown": "(bridge, room, pair, d=0, lag=0)",
              "shows": "(bridge, room, pair, word, thing, d=0, lag=0)"},
    "inorder": {"in_order": "(bridge, room, pairs)", "is_in_order": "(bridge, room, pairs, thing)",
                "is_round": "(bridge, room, pairs, thing)"},
    "lots": {"missed": "(bridge, room, joining)", "strange": "(bridge, room, joining, d=0, lag=0)",
             "lot": "(bridge, room, joining)"},
    "rings": {"ring_of": "(bridge, room, joining, number)", "obeyed": "(bridge, room, joining, number, d=0)"},
    "turns": {"is_table": "(thing)", "turns": "(log, engine, table, first, last, idle=0)"},
    "ships": {"heading": "(swing, step=45)", "sail": "(ship, port, star, minutes, step=45)"},
    "courses": {"course": "(log, table, ship, first, last, d=0, step=45)"},
    "partings": {"partings": "(bridge, room, table, ship, first, last, d=0, step=45)",
                 "farthest": "(bridge, room, table, ship, first, last, d=0, step=45)"},
    "cards": {"is_card": "(thing)", "minutes_of": "(card)"},
    "effects": {"effect": "(card, table, orders, step=6)", "played": "(card, table, orders, ship, step=6)"},
    "written": {"written_out": "(card, minute=0)"},
    "texts": {"show_minute": "(minute)", "show_order": "(order)", "show_row": "(row)", "show_log": "(log)",
              "show_card": "(card)"},
    "reader": {"read_minute": "(text)", "read_order": "(text)", "read_row": "(text)", "read_log": "(text)",
               "read_card": "(text)"},
    "overall": {"over_words": "(bridge, room, lag=0, low=0, high=0)",
                "over_with": "(bridge, room, pair, lag=0, low=0, high=0)",
                "over_without": "(bridge, room, pair, lag=0, low=0, high=0)"},
    "overshown": {"over_shown": "(bridge, room, pair, lag=0, low=0, high=0)",
                  "over_shows": "(bridge, room, pair, word, thing, lag=0, low=0, high=0)"},
    "sharings": {"greatest": "(bridge, room, pairs, d=0, lag=0)", "sharing": "(bridge, room, pairs, d=0, lag=0)",
                 "is_sharing": "(bridge, room, pairs, thing, lag=0, low=0, high=0)"},
}

CLASSES = {
    ("watch", "Watch"): {"__init__": "(self, lag=0, low=0, high=0)", "tell": "(self, house, number, row)",
                         "drop": "(self, house, number)", "back": "(self)", "again": "(self)", "log": "(self, house)",
                         "best": "(self)", "lot": "(self)", "ask": "(self, number)", "forget": "(self, number)",
                         "asked": "(self)", "twin": "(self)"},
    ("logthing", "Log"): {"__init__": "(self, rows)", "rows": "(self)", "with_row": "(self, row)",
                          "later": "(self, many)"},
    ("desk", "Desk"): {"__init__": "(self, table, lag=0, low=0, high=0, step=45)", "say": "(self, line)"},
}

ERRORS = ("RingError", "NoLog", "NoPair", "NoCard", "NoStretch", "NoRow", "Taken", "NoText", "NoLine", "Unknown",
          "NoNumber", "Nothing", "Full", "Late")


class Interface(unittest.TestCase):
    def test_functions(self):
        for module, functions in FUNCTIONS.items():
            for name, arguments in functions.items():
                function = getattr(importlib.import_module("ringorders." + module), name)
                self.assertTrue(inspect.isfunction(function), name)
                self.assertEqual(function.__module__, "ringorders." + module)
                self.assertEqual(str(inspect.signature(function)), arguments, name)

    def test_classes_and_their_own_methods(self):
        for (module, name), methods in CLASSES.items():
            made = getattr(importlib.import_module("ringorders." + module), name)
            self.assertTrue(inspect.isclass(made), name)
            self.assertEqual(made.__module__, "ringorders." + module)
            for method, arguments in methods.items():
                self.assertEqual(str(inspect.signature(vars(made)[method])), arguments, method)

    def test_errors(self):
        errors = importlib.import_module("ringorders.errors")
        for name in ERRORS:
            self.assertTrue(inspect.isclass(getattr(errors, name)), name)
            self.assertEqual(getattr(errors, name).__module__, "ringorders.errors")


if __name__ == "__main__":
    unittest.main()
