import copy
import random
import unittest

from fairshown.errors import InvalidPaper
from fairshown.recordchecker import lets_record

from helper import ANY_VALUES, RECORD, ROWS, RULES, first_fault, made_records, made_row, own_fills, thirty_rows

BUY = ("order", "ann", "buy", 10, 3, ())
SELL = ("order", "bob", "sell", 12, 2, ())


def fault(thing):
    """What lets_record raises, as a pair, or the number of rows."""
    try:
        return lets_record(thing)
    except InvalidPaper as error:
        return error.word, error.at


class Shape(unittest.TestCase):
    def test_any_values(self):
        for thing in ANY_VALUES:
            self.assertEqual(fault(thing), ("shape", -1), thing)

    def test_one_part_wrong(self):
        for thing in ((), ("time",), ("time", (), ()), ["time", ()], ("time", []), ("Time", ()), (None, ()),
                      ("time", None), ("time", "rows"), ("time", BUY), ("time", (list(BUY),)), ("time", (None,)),
                      ((), "time"), (("time",), ()), ("time", ROWS + (("cancel", True),))):
            self.assertEqual(fault(thing), ("shape", -1), thing)

    def test_shape_comes_before_all_else(self):
        self.assertEqual(fault(("time", (("cancel", 0), ("prints", [])))), ("shape", -1))
        self.assertEqual(fault(("time", (BUY, ("closed",), ("cancel", None)))), ("shape", -1))

    def test_no_rows(self):
        for rule in RULES:
            self.assertEqual(lets_record((rule, ())), 0)


class Rows(unittest.TestCase):
    def check(self, rows, word, at):
        for rule in RULES:
            self.assertEqual(fault((rule, tuple(rows))), (word, at))

    def allow(self, rows):
        for rule in RULES:
            self.assertEqual(fault((rule, tuple(rows))), len(rows))

    def test_closed_row_behind_others(self):
        self.check([BUY, ("closed",)], "closed", 1)
        self.check([("closed",), ("closed",)], "closed", 1)
        self.check([("closed",), ("call", None, ()), ("closed",)], "closed", 2)

    def test_call_outside_of_the_closed_part(self):
        self.check([("call", None, ())], "closed", 0)
        self.check([BUY, ("call", 10, ())], "closed", 1)
        self.check([("closed",), ("call", None, ()), ("call", None, ())], "closed", 2)
        self.check([BUY, ("call", 10, ((5, 1),))], "closed", 1)

    def test_fills_in_the_closed_part(self):
        self.check([("closed",), ("prints", ((10, 1, None),))], "closed", 1)
        self.check([("closed",), ("order", "ann", "buy", 10, 3, ((10, 1, None),))], "closed", 1)
        self.check([("closed",), BUY, ("prints", ((10, 1, 9),))], "closed", 2)
        self.allow([("closed",), BUY, SELL, ("prints", ()), ("cancel", 1), ("prints", ())])

    def test_fills_again_behind_the_call(self):
        self.allow([("closed",), BUY, ("call", 10, ((1, 1),)), ("prints", ((10, 2, 1),))])
        self.check([("closed",), BUY, ("call", 10, ((1, 1),)), ("prints", ((10, 3, 1),))], "size", (3, 0))

    def test_cancels(self):
        self.allow([BUY, ("cancel", 0)])
        self.check([("cancel", 0)], "open", 0)
        self.check([("cancel", 1), BUY], "open", 0)
        self.check([BUY, ("cancel", 1)], "open", 1)
        self.check([BUY, ("cancel", 10 ** 59)], "open", 1)
        self.check([("prints", ()), ("cancel", 0)], "open", 1)
        self.check([BUY, ("cancel", 0), ("cancel", 0)], "open", 2)
        self.check([BUY, ("prints", ((10, 3, 0),)), ("cancel", 0)], "open", 2)
        self.check([("order", "ann", "buy", 10, 1, ((9, 1, None),)), ("cancel", 0)], "open", 1)

    def test_order_fill_open(self):
        self.check([("order", "bob", "sell", 10, 1, ((10, 1, 0),))], "open", (0, 0))
        self.check([BUY, ("order", "bob", "sell", 10, 1, ((10, 1, 7),))], "open", (1, 0))
        self.check([BUY, ("cancel", 0), ("order", "bob", "sell", 10, 1, ((10, 1, 0),))], "open", (2, 0))
        used = ("order", "bob", "sell", 10, 5, ((10, 3, 0), (10, 1, 0)))
        self.check([BUY, used], "open", (1, 1))

    def test_order_fill_side(self):
        self.check([BUY, ("order", "bob", "buy", 10, 1, ((10, 1, 0),))], "side", (1, 0))
        self.check([SELL, ("order", "bob", "sell", 12, 9, ((12, 1, None), (12, 1, 0)))], "side", (1, 1))
        self.check([SELL, ("order", "bob", "sell", 12, 1, ((11, 9, 0),))], "side", (1, 0))

    def test_order_fill_price(self):
        self.check([BUY, ("order", "bob", "sell", 9, 1, ((9, 1, 0),))], "price", (1, 0))
        self.check([BUY, ("order", "bob", "sell", 11, 1, ((10, 1, 0),))], "price", (1, 0))
        self.check([("order", "bob", "buy", 10, 1, ((11, 1, None),))], "price", (0, 0))
        self.check([("order", "bob", "sell", 10, 2, ((10, 1, None), (9, 1, None)))], "price", (0, 1))
        self.check([BUY, ("order", "bob", "sell", 9, 1, ((9, 9, 0),))], "price", (1, 0))
        self.allow([("order", "bob", "buy", 10, 2, ((10, 1, None), (3, 1, None)))])
        self.allow([("order", "bob", "sell", 10, 2, ((10, 1, None), (30, 1, None)))])

    def test_order_fill_size(self):
        self.check([BUY, ("order", "bob", "sell", 10, 9, ((10, 4, 0),))], "size", (1, 0))
        self.check([BUY, ("order", "bob", "sell", 10, 2, ((10, 3, 0),))], "size", (1, 0))
        self.check([BUY, ("order", "bob", "sell", 10, 9, ((10, 2, 0), (10, 2, 0)))], "size", (1, 1))
        self.check([("order", "bob", "sell", 10, 2, ((10, 1, None), (10, 2, None)))], "size", (0, 1))
        self.allow([BUY, ("order", "bob", "sell", 10, 9, ((10, 2, 0), (10, 1, 0), (10, 6, None)))])

    def test_prints(self):
        self.check([("prints", ((10, 1, 0),))], "open", (0, 0))
        self.check([BUY, ("prints", ((10, 3, 0), (10, 1, 0)))], "open", (1, 1))
        self.check([BUY, ("prints", ((10, 1, 1),))], "open", (1, 0))
        self.check([BUY, ("prints", ((10, 1, None), (9, 5, 0)))], "price", (1, 1))
        self.check([BUY, ("prints", ((10, 2, 0), (10, 2, 0)))], "size", (1, 1))
        self.allow([BUY, SELL, ("prints", ((10, 2, 0), (12, 2, 1), (10, 1, 0), (99, 9, None)))])

    def test_call_pairs(self):
        begun = [("closed",), BUY, SELL]
        self.check(begun + [("call", 11, ((1, 1),))], "price", (3, 0))
        self.check(begun + [("call", 11, ((2, 9),))], "price", (3, 0))
        self.check(begun + [("call", 10, ((0, 1),))], "open", (3, 0))
        self.check(begun + [("call", 10, ((1, 3), (9, 1)))], "open", (3, 1))
        self.check(begun + [("call", 10, ((1, 4),))], "size", (3, 0))
        self.check(begun + [("cancel", 1), ("call", 10, ((1, 1),))], "open", (4, 0))
        self.check([("closed",), ("order", "ann", "buy", 12, 3, ()), SELL, ("call", 12, ((1, 3), (2, 3)))], "size", (3, 1))
        self.allow([("closed",), ("order", "ann", "buy", 12, 3, ()), SELL, ("call", 12, ((1, 3), (2, 1)))])
        self.allow(begun + [("call", None, ())])
        self.allow(begun + [("call", 10, ((1, 3),))])
        self.allow(begun + [("call", 12, ((2, 2),))])

    def test_filled_by_a_call(self):
        self.check([("closed",), BUY, ("call", 10, ((1, 3),)), ("cancel", 1)], "open", 3)

    def test_the_first_of_several_reasons(self):
        several = ("order", "bob", "buy", 9, 1, ((10, 9, 0), (99, 9, 8)))
        self.check([BUY, several], "side", (1, 0))
        self.check([BUY, ("cancel", 5), several], "open", 1)
        self.check([BUY, ("order", "bob", "sell", 10, 1, ((99, 9, 8), (9, 9, 0)))], "open", (1, 0))
        self.check([BUY, ("prints", ((9, 9, 0), (9, 9, 8)))], "price", (1, 0))
        self.check([("closed",), BUY, ("call", 11, ((1, 9), (8, 9)))], "price", (2, 0))
        self.check([("closed",), BUY, ("prints", ((9, 9, 9),)), ("cancel", 7)], "closed", 2)
        self.check([("cancel", 0), ("closed",)], "open", 0)

    def test_thirty_rows(self):
        for rule in RULES:
            record = thirty_rows(rule)
            self.assertEqual(fault(record), 30)
            self.assertEqual(fault((rule, record[1] + (("cancel", 25),))), ("open", 30))

    def test_beyond_the_limits(self):
        orders = tuple(("order", "ann", "buy", 10 ** 59, 10 ** 59, ()) for _ in range(60))
        self.assertEqual(fault(("time", orders)), 60)

    def test_large_numbers(self):
        big = 10 ** 59
        self.allow([("order", "ann", "buy", big, big, ()), ("prints", ((big, big - 1, 0), (big, 1, 0)))])


class Examples(unittest.TestCase):
    def test_the_documents_examples(self):
        self.assertEqual(lets_record(RECORD), 4)
        with self.assertRaises(InvalidPaper) as caught:
            lets_record(("time", ROWS[:2] + (("prints", ((10, 2, 1), (10, 1, 1))),)))
        self.assertEqual((caught.exception.word, caught.exception.at), ("open", (2, 1)))

    def test_by_name(self):
        self.assertEqual(lets_record(thing=RECORD), 4)

    def test_kinds_of_fields(self):
        with self.assertRaises(InvalidPaper) as caught:
            lets_record(("time", (("cancel", 0),)))
        self.assertIs(type(caught.exception.at), int)

    def test_arguments_stay_as_they_are(self):
        thing = ["time", [list(BUY), ["prints", []]]]
        before = copy.deepcopy(thing)
        self.assertEqual(fault(thing), ("shape", -1))
        self.assertEqual(thing, before)


class Made(unittest.TestCase):
    def test_made_records_are_records(self):
        for record in made_records(1, 300):
            self.assertEqual(lets_record(record), len(record[1]))

    def test_made_rows_that_are_wrong_somewhere(self):
        rng = random.Random(2)
        words = set()
        for record in made_records(3, 1500, fair=0.5):
            rule, rows = record
            wrong = made_row(rng, rows, rng.random() < 0.2)
            if wrong[0] in ("order", "prints"):
                changed = [(x + rng.choice((0, 0, 0, 1)), size + rng.choice((0, 0, 2)),
                            n if rng.random() < 0.7 else rng.randint(0, len(rows))) for x, size, n in own_fills(wrong)]
                wrong = wrong[:-1] + (tuple(changed),)
            thing = (rule, rows + (wrong,) + rows[-1:])
            self.assertEqual(fault(thing), first_fault(thing), thing)
            words.add(fault(thing)[0] if isinstance(fault(thing), tuple) else None)
        self.assertEqual(words, {"open", "side", "price", "size", "closed", None})


if __name__ == "__main__":
    unittest.main()
