"""Names, arguments and places of what the document lists, for the modules that are there."""

import importlib
import inspect
import unittest

# module: {function: its parameters, with defaults; what stands after the * by name only}
INTERFACE = {
    "kinds": {
        "is_integer": "(thing)", "is_number": "(thing)", "is_name": "(thing)", "is_side": "(thing)",
        "is_rule": "(thing)", "is_fill": "(thing)", "is_row": "(thing)",
    },
    "recordchecker": {"lets_record": "(thing)"},
    "bars": {
        "bars_of": "(record)", "bars_at": "(record, t)", "first_bar": "(record)", "is_bar": "(record, thing)",
    },
    "explaining": {"is_explained": "(record)", "explained_rows": "(record)", "day_for": "(record)"},
    "records": {
        "members_of": "(record)", "orders_of": "(record)", "order_at": "(record, n)",
        "rest_at": "(record, n, t, i=0)", "open_at": "(record, t, i=0)", "is_closed_at": "(record, t)",
        "prints_of": "(record)", "traded": "(record, n)", "seen": "(record, members)",
        "with_rule": "(record, rule)", "cut": "(record, t)",
    },
    "recordtexts": {"row_text": "(row)", "record_text": "(record)"},
    "eventtexts": {"event_line": "(event)", "log_lines": "(log)"},
    "fronts": {
        "took_as_it_came": "(record, n)", "front_since": "(record, n, t, i=0)", "fronts_at": "(record, t, i=0)",
        "went_ahead": "(record, n)", "stood_before": "(record, n)",
    },
    "groups": {
        "is_shown_by": "(record, members)", "first_row_shown": "(record, members)", "least_groups": "(record)",
        "quiet_groups": "(record)",
    },
    "answers": {
        "can_follow": "(record, row)", "answers_to": "(record, member, side, price, size, prices, *, most=3)",
        "next_prints": "(record, prices, *, size=1)",
    },
    "takings": {"takings": "(book, side, price, size)"},
    "calls": {
        "call_volume": "(book, price)", "call_prices": "(book)", "call_fills": "(book, price)",
    },
    "daychecker": {"lets_day": "(thing)"},
    "rulings": {"rules_of": "(record)", "breaches_by_rule": "(record)"},
    "days": {
        "record_of": "(day)", "members_in": "(day)", "strangers_in": "(day)", "stranger_lots": "(day)",
        "resting_in": "(day, s)",
    },
    "recordreadings": {"row_read": "(text, *, line=0, field=0)", "record_read": "(text)"},
    "eventreadings": {"read_event": "(text)", "read_log": "(lines)"},
    "explainchecker": {"lets_explained": "(record, thing)"},
    "explainpapers": {"explain_paper": "(record)"},
    "groupchecker": {"lets_groups": "(record, thing)"},
    "grouppapers": {"group_paper": "(record)"},
    "holders": {
        "owners_of": "(record, bar)", "receipts_of": "(record, bar)", "breached_rows": "(record)",
        "holders_at": "(record, t)", "nobody_shows": "(record, members)",
    },
    "replaying": {"is_log": "(thing)", "replayed": "(log)"},
    "rulechecker": {"lets_rules": "(record, thing)"},
    "rulepapers": {"rule_paper": "(record)"},
    "witnesses": {"witness_groups": "(record)"},
    "witnesspapers": {"witness_paper": "(record)"},
    "witnesschecker": {"lets_witness": "(record, thing)"},
}

# module: {class: {method: its parameters behind self}}; properties have None
CLASSES = {
    "books": {"Book": {
        "__init__": "(rule)", "rule": None, "is_closed": None, "came": None, "order": "(side, price, size)",
        "order_told": "(side, price, size, fills)", "cancel": "(n)", "close": "()", "call": "()",
        "call_told": "(price, fills)", "__contains__": "(n)", "__len__": "()", "__iter__": "()", "resting": "()",
        "rest": "(n)", "best": "(side)", "depth": "(side)", "queue": "(side, price)", "__eq__": "(other)",
        "copy": "()", "trial": "()",
    }},
    "audits": {"Audit": {
        "__init__": "(rule, members=())", "rule": None, "members": None, "record": None, "view": None, "bars": None,
        "first": None, "broken": None, "add": "(row)", "let_in": "(member)", "leave": "(member)",
        "set_rule": "(word)", "go": "(event)", "__call__": "(event)", "__getitem__": "(t)",
        "__contains__": "(thing)", "__len__": "()", "__iter__": "()", "__eq__": "(other)", "tried": "(*events)",
        "undo": "()", "do_all": "(*events, keep=False)", "counts": "()", "table": "()", "shown_by": "(*names)",
        "least": "()", "quiet": "()", "rules": "()", "day": "()", "can_come": "(row)", "ahead": "(n)", "log": "()",
        "__str__": "()",
    }},
    "desk": {"Desk": {"__init__": "()", "say": "(row)", "counts": "()"}},
    "recordclasses": {
        "Record": {
            "__init__": "(rule, rows)", "rule": None, "rows": None, "form": None, "members": None,
            "__getitem__": "(t)", "__contains__": "(n)", "__len__": "()", "__iter__": "()", "__eq__": "(other)",
            "__str__": "()", "__add__": "(other)", "__and__": "(other)", "by": "(rule)", "cut": "(t)",
            "__call__": "(n, t)", "walk": "()",
        },
        "View": {"__init__": "(rec, *members)", "source": None, "lift": "()"},
        "Beginning": {"__init__": "(rec, t)", "source": None, "later": "()"},
    },
    "watching": {"Watch": {
        "__init__": "(rule)", "record": None, "bars": None, "first": None, "standing": None, "fronts": None,
        "lead": "(row)", "would": "(row)", "back": "()", "__len__": "()", "__contains__": "(thing)",
        "__getitem__": "(n)", "__iter__": "()", "each": "()", "__enter__": "()", "__exit__": "(kind, value, trace)",
        "copy": "()", "__eq__": "(other)",
    }},
}

ERROR_FIELDS = {
    "InvalidPaper": "(word, at)", "UnknownOrder": "(n)", "UnknownMember": "(member)", "NotUsable": "(word, at)",
    "InvalidEvent": "(event, reason)", "NothingToUndo": "(steps)", "InvalidText": "(line, field)",
    "InvalidRow": "(row)",
}


class Interface(unittest.TestCase):
    def test_functions_are_defined_in_their_files(self):
        for module, functions in INTERFACE.items():
            found = importlib.import_module("fairshown." + module)
            for name, parameters in functions.items():
                function = vars(found)[name]
                self.assertTrue(inspect.isfunction(function), name)
                self.assertEqual(function.__module__, "fairshown." + module, name)
                self.assertEqual(str(inspect.signature(function)), parameters, name)

    def test_methods_are_defined_in_their_classes(self):
        for module, classes in CLASSES.items():
            found = importlib.import_module("fairshown." + module)
            for name, methods in classes.items():
                made = vars(found)[name]
                self.assertTrue(inspect.isclass(made), name)
                self.assertEqual(made.__module__, "fairshown." + module, name)
                for method, parameters in methods.items():
                    self.method(vars(made)[method], parameters)

    def method(self, method, parameters):
        if parameters is None:
            self.assertIsInstance(method, property)
            return
        self.assertTrue(inspect.isfunction(method), method)
        signature = inspect.signature(method)
        kept = list(signature.parameters.values())[1:]
        self.assertEqual(str(signature.replace(parameters=kept)), parameters, method)

    def test_generators(self):
        for module, name in (("answers", "answers_to"), ("takings", "takings"), ("calls", "call_fills")):
            found = importlib.import_module("fairshown." + module)
            self.assertTrue(inspect.isgeneratorfunction(vars(found)[name]), name)
        for module, made, name in (("books", "Book", "resting"), ("recordclasses", "Record", "walk"),
                                   ("watching", "Watch", "each")):
            found = importlib.import_module("fairshown." + module)
            self.assertTrue(inspect.isgeneratorfunction(vars(vars(found)[made])[name]), name)

    def test_methods_of_the_class_record(self):
        found = vars(importlib.import_module("fairshown.recordclasses").Record)
        self.assertIsInstance(found["parsed"], classmethod)
        self.assertEqual(str(inspect.signature(found["parsed"].__func__)), "(cls, text)")
        for name in ("opened", "shut"):
            self.assertIsInstance(found[name], staticmethod)
            self.assertEqual(str(inspect.signature(found[name].__func__)), "(rule)")

    def test_derived_classes(self):
        found = importlib.import_module("fairshown.recordclasses")
        for name in ("View", "Beginning"):
            self.assertEqual(vars(found)[name].__mro__[1:], (found.Record, object))

    def test_errors_take_their_fields(self):
        errors = importlib.import_module("fairshown.errors")
        for name, parameters in ERROR_FIELDS.items():
            self.assertEqual(str(inspect.signature(vars(errors)[name])), parameters, name)


if __name__ == "__main__":
    unittest.main()
