"""Names, arguments and places of what the document lists, for the modules that are there."""

import importlib
import inspect
import unittest

# module: {function: its parameters, with defaults; what stands after the * by name only}
INTERFACE = {
    "kinds": {
        "is_integer": "(thing)", "is_number": "(thing)", "is_name": "(thing)", "is_side": "(thing)",
        "is_rule": "(thing)", "is_fill": "(thing)", "is_row": "(thing)",
    },
    "recordchecker": {"lets_record": "(thing)"},
    "bars": {
        "bars_of": "(record)", "bars_at": "(record, t)", "first_bar": "(record)", "is_bar": "(record, thing)",
    },
    "explaining": {"is_explained": "(record)", "explained_rows": "(record)", "day_for": "(record)"},
    "records": {
        "members_of": "(record)", "orders_of": "(record)", "order_at": "(record, n)",
        "rest_at": "(record, n, t, i=0)", "open_at": "(record, t, i=0)", "is_closed_at": "(record, t)",
        "prints_of": "(record)", "traded": "(record, n)", "seen": "(record, members)",
        "with_rule": "(record, rule)", "cut": "(record, t)",
    },
    "recordtexts": {"row_text": "(row)", "record_text": "(record)"},
    "eventtexts": {"event_line": "(event)", "log_lines": "(log)"},
    "fronts": {
        "took_as_it_came": "(record, n)", "front_since": "(record, n, t, i=0)", "fronts_at": "(record, t, i=0)",
        "went_ahead": "(record, n)", "stood_before": "(record, n)",
    },
    "groups": {
        "is_shown_by": "(record, members)", "first_row_shown": "(record, members)", "least_groups": "(record)",
        "quiet_groups": "(record)",
    },
    "answers": {
        "can_follow": "(record, row)", "answers_to": "(record, member, side, price, size, prices, *, most=3)",
        "next_prints": "(record, prices, *, size=1)",
    },
}

ERROR_FIELDS = {
    "InvalidPaper": "(word, at)", "UnknownOrder": "(n)", "UnknownMember": "(member)", "NotUsable": "(word, at)",
    "InvalidEvent": "(event, reason)", "NothingToUndo": "(steps)", "InvalidText": "(line, field)",
    "InvalidRow": "(row)",
}


class Interface(unittest.TestCase):
    def test_functions_are_defined_in_their_files(self):
        for module, functions in INTERFACE.items():
            found = importlib.import_module("fairshown." + module)
            for name, parameters in functions.items():
                function = vars(found)[name]
                self.assertTrue(inspect.isfunction(function), name)
                self.assertEqual(function.__module__, "fairshown." + module, name)
                self.assertEqual(str(inspect.signature(function)), parameters, name)

    def test_errors_take_their_fields(self):
        errors = importlib.import_module("fairshown.errors")
        for name, parameters in ERROR_FIELDS.items():
            self.assertEqual(str(inspect.signature(vars(errors)[name])), parameters, name)


if __name__ == "__main__":
    unittest.main()
