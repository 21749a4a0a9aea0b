import copy
import unittest

from fairshown import kinds
from fairshown.kinds import is_fill, is_integer, is_name, is_number, is_row, is_rule, is_side

from helper import ANY_VALUES

FILLS = ((10, 1, None), (10, 2, 0))
ROWS_BY_FORM = (
    ("order", "ann", "buy", 10, 3, ()),
    ("order", "abcdefgh", "sell", 1, 1, FILLS),
    ("order", "a", "sell", 10 ** 59, 10 ** 59, FILLS),
    ("cancel", 0), ("cancel", 10 ** 59),
    ("prints", ()), ("prints", FILLS),
    ("closed",),
    ("call", 10, ()), ("call", None, ()), ("call", 1, ((0, 1),)), ("call", 9, ((0, 1), (1, 5), (4, 1))),
)

NO_FILLS = (
    (), (10, 1), (10, 1, None, 0), [10, 1, None], (0, 1, None), (10, 0, None), (-1, 1, None), (10, -1, None),
    (True, 1, None), (10, True, None), (10, 1, True), (10, 1, False), (10, 1, -1), (10, 1, "0"), (10, 1, (0,)),
    ("10", 1, None), (10, "1", None), (None, 1, None), (10, None, None), (10, 1, ()), ((10, 1, None),),
)

# Each row has one wrong part.
NO_ROWS = (
    (), ("order",), ("order", "ann", "buy", 10, 3), ("order", "ann", "buy", 10, 3, (), ()),
    ["order", "ann", "buy", 10, 3, ()], ("Order", "ann", "buy", 10, 3, ()), ("orders", "ann", "buy", 10, 3, ()),
    ("order", None, "buy", 10, 3, ()), ("order", "Ann", "buy", 10, 3, ()), ("order", "", "buy", 10, 3, ()),
    ("order", "abcdefghi", "buy", 10, 3, ()), ("order", "ann", "bid", 10, 3, ()), ("order", "ann", None, 10, 3, ()),
    ("order", "ann", "buy", 0, 3, ()), ("order", "ann", "buy", -1, 3, ()), ("order", "ann", "buy", True, 3, ()),
    ("order", "ann", "buy", None, 3, ()), ("order", "ann", "buy", 10, 0, ()), ("order", "ann", "buy", 10, True, ()),
    ("order", "ann", "buy", 10, "3", ()), ("order", "ann", "buy", 10, 3, None), ("order", "ann", "buy", 10, 3, []),
    ("order", "ann", "buy", 10, 3, ((10, 1),)), ("order", "ann", "buy", 10, 3, (10, 1, None)),
    ("order", "ann", "buy", 10, 3, [(10, 1, None)]), ("order", "ann", "buy", 10, 3, ((10, 0, None),)),
    ("cancel",), ("cancel", -1), ("cancel", True), ("cancel", None), ("cancel", "0"), ("cancel", 0, 0), ["cancel", 0],
    ("cancel", (0,)), ("prints",), ("prints", []), ("prints", None), ("prints", (10, 1, None)), ("prints", ((),)),
    ("prints", (), ()), ("prints", ((10, 1, -1),)), ("prints", ([10, 1, None],)), ["prints", ()], ("print", ()),
    ("closed", ()), ("closed", None), ["closed"], "closed", ("close",), (("closed",),),
    ("call",), ("call", 10), ("call", 10, (), ()), ("call", 0, ()), ("call", -1, ()), ("call", True, ()),
    ("call", "10", ()), ("call", None, ((0, 1),)), ("call", 10, []), ("call", 10, None), ["call", 10, ()],
    ("call", 10, (0, 1)), ("call", 10, ((0,),)), ("call", 10, ((0, 1, None),)), ("call", 10, ([0, 1],)),
    ("call", 10, ((0, 0),)), ("call", 10, ((-1, 1),)), ("call", 10, ((None, 1),)), ("call", 10, ((False, 1),)),
    ("call", 10, ((0, True),)), ("call", 10, ((1, 1), (0, 1))), ("call", 10, ((0, 1), (0, 2))),
    ("call", 10, ((0, 1), (2, 1), (1, 1))), (1, ()), (None,), (("order",), "ann", "buy", 10, 3, ()),
)


def accepted(function, things):
    return [thing for thing in things if function(thing)]


class Kinds(unittest.TestCase):
    def test_results_are_bools(self):
        for name in ("is_integer", "is_number", "is_name", "is_side", "is_rule", "is_fill", "is_row"):
            for thing in ANY_VALUES + ROWS_BY_FORM + NO_ROWS + NO_FILLS:
                self.assertIs(type(getattr(kinds, name)(thing)), bool, (name, thing))

    def test_by_name(self):
        for name in ("is_integer", "is_number", "is_name", "is_side", "is_rule", "is_fill", "is_row"):
            self.assertFalse(getattr(kinds, name)(thing=None))

    def test_integers(self):
        self.assertEqual(accepted(is_integer, ANY_VALUES), [0, 1, -1, 2, 10 ** 59, -(10 ** 59)])
        self.assertFalse(is_integer(True) or is_integer(False))

    def test_numbers(self):
        self.assertEqual(accepted(is_number, ANY_VALUES), [0, 1, 2, 10 ** 59])
        self.assertFalse(is_number(False) or is_number(True))

    def test_names(self):
        found = ["a", "ann", "abcdefgh", "buy", "sell", "buys", "time", "late", "price", "prices", "open", "order",
                 "closed"]
        self.assertEqual(accepted(is_name, ANY_VALUES), found)
        for thing in ("", "aB", "a1", "a-", "a b", "a\n", "\n", "ab_", " a", "abcdefghi", ("a",), ["a", "n"]):
            self.assertFalse(is_name(thing), thing)

    def test_sides(self):
        self.assertEqual(accepted(is_side, ANY_VALUES), ["buy", "sell"])
        for thing in ("", "b", "Buy", "SELL", "buy ", "sells", "buysell", ("buy",), ["sell"], None, 0):
            self.assertFalse(is_side(thing), thing)

    def test_rules(self):
        self.assertEqual(accepted(is_rule, ANY_VALUES), ["time", "late", "price"])
        for thing in ("", "t", "Time", "times", " late", "price\n", ("time",), ["late"], True, 2):
            self.assertFalse(is_rule(thing), thing)

    def test_fills(self):
        for fill in FILLS + ((1, 1, 0), (10 ** 59, 10 ** 59, 10 ** 59)):
            self.assertTrue(is_fill(fill), fill)
        self.assertEqual(accepted(is_fill, NO_FILLS), [])
        self.assertEqual(accepted(is_fill, ANY_VALUES), [(10, 1, None)])

    def test_rows(self):
        self.assertEqual(tuple(accepted(is_row, ROWS_BY_FORM)), ROWS_BY_FORM)
        self.assertEqual(accepted(is_row, NO_ROWS), [])
        self.assertEqual(accepted(is_row, ANY_VALUES), [("closed",), ("cancel", 0), ("prints", ())])

    def test_any_value_in_any_part_of_a_row(self):
        for row in ROWS_BY_FORM:
            for part in range(len(row)):
                right = [thing for thing in ANY_VALUES if is_row(row[:part] + (thing,) + row[part + 1:])]
                for thing in right:
                    self.assertIsNot(type(thing), bool)
                    self.assertNotIsInstance(thing, list)

    def test_deep_and_long_values(self):
        deep = ()
        for _ in range(29):
            deep = (deep,)
        for thing in (deep, [deep], ("prints", deep), ("prints", ((1, 1, None),) * 4999), "a" * 4000):
            for function in (is_integer, is_number, is_name, is_side, is_rule, is_fill):
                self.assertFalse(function(thing))
        self.assertFalse(is_row(("prints", deep)))
        self.assertTrue(is_row(("prints", ((1, 1, None),) * 1600)))

    def test_the_documents_example(self):
        things = [is_fill((10, 1, None)), is_fill((10, 0, 2)), is_row(("cancel", 3)),
                  is_row(("call", None, ((0, 1),))), is_row(("prints", []))]
        self.assertEqual(things, [True, False, True, False, False])

    def test_arguments_stay_as_they_are(self):
        thing = ["order", ["ann"], ("buy", [10]), 3, []]
        before = copy.deepcopy(thing)
        for function in (is_integer, is_number, is_name, is_side, is_rule, is_fill, is_row):
            function(thing)
        self.assertEqual(thing, before)


if __name__ == "__main__":
    unittest.main()
