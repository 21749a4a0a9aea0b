import unittest

from fairshown.bars import bars_of
from fairshown.explaining import day_for, explained_rows, is_explained
from fairshown.recordchecker import lets_record

from helper import RECORD, ROWS, RULES, DayError, found_bars, groups_in, made_days, made_records, order, prints
from helper import record_told, seen_by, thirty_rows


class Explaining(unittest.TestCase):
    def told(self, rows, rules=RULES):
        """By each of these rules a day has this record, and the record of a day that is by the rule."""
        for rule in rules:
            record = (rule, tuple(rows))
            self.assertEqual(lets_record(record), len(rows))
            self.assertIs(is_explained(record), True, record)
            self.assertEqual(explained_rows(record), len(rows))
            self.assertEqual(record_told(day_for(record)), record)

    def barred(self, rows, explained, rules=RULES):
        for rule in rules:
            record = (rule, tuple(rows))
            self.assertEqual(lets_record(record), len(rows))
            self.assertIs(is_explained(record), False, record)
            self.assertEqual(explained_rows(record), explained)
            self.assertIsNone(day_for(record))
            self.assertEqual(record_told(day_for((rule, record[1][:explained]))), (rule, record[1][:explained]))

    def test_no_rows(self):
        self.told([])
        self.assertEqual(day_for(("time", ())), ("time", ()))

    def test_rows_without_fills(self):
        self.told([prints(), prints()])
        self.told([order("ann", "buy", 10, 3), ("cancel", 0), order("bob", "sell", 10, 3)])
        self.told([order("ann", "buy", 10, 3), order("bob", "sell", 11, 3)])

    def test_prints_of_strangers(self):
        self.told([prints((10, 1, None), (8, 2, None), (12, 1, None))])
        self.told([order("ann", "buy", 10, 3), order("bob", "sell", 12, 3),
                   prints((10, 1, None), (11, 1, None), (12, 2, None), (10, 1, None))])

    def test_strangers_before_the_order(self):
        self.told([order("ann", "buy", 10, 3), prints((10, 1, None)), order("bob", "buy", 10, 3), prints((10, 2, None)),
                   prints((10, 3, 0)), prints((10, 1, None), (10, 1, None))], ["time", "price"])
        self.told([order("ann", "buy", 10, 3), prints((10, 1, None), (10, 1, 0))])

    def test_a_stranger_between_two_orders(self):
        rows = [order("ann", "buy", 10, 1), order("bob", "buy", 10, 1)]
        self.told(rows + [prints((10, 1, 0)), prints((10, 1, None)), prints((10, 1, 1))], ["time", "price"])
        self.told(rows + [order("cy", "sell", 10, 3, (10, 1, 0), (10, 1, None), (10, 1, 1))], ["time", "price"])
        self.told(rows + [order("cy", "sell", 10, 3, (10, 1, 1), (10, 1, None), (10, 1, 0))], ["late", "price"])
        self.told(rows + [order("cy", "sell", 10, 5, (10, 1, None), (10, 1, 1), (10, 1, None), (10, 1, 0), (10, 1, None))],
                  ["late", "price"])

    def test_late_several_strangers_behind_an_order(self):
        rows = [order("ann", "buy", 10, 1), order("bob", "buy", 10, 2), order("cy", "buy", 9, 1)]
        taking = order("ann", "sell", 9, 9, (10, 2, None), (10, 2, 1), (10, 1, None), (10, 2, None), (10, 1, 0),
                       (9, 1, None))
        self.told(rows + [taking[:5] + (taking[5][:5] + ((9, 1, 2), ),)], ["late", "price"])
        self.told(rows + [taking], ["late", "price"])

    def test_late_an_order_that_took_as_it_came(self):
        rows = [order("ann", "buy", 10, 2, (9, 1, None))]
        self.told(rows + [order("bob", "sell", 10, 2, (10, 1, None), (10, 1, 0))], ["late", "price"])
        self.told(rows + [prints((10, 1, 0), (10, 1, None))])
        self.barred(rows + [order("bob", "sell", 10, 2, (10, 1, 0), (10, 1, None))], 1, ["late"])

    def test_orders_that_take(self):
        self.told([order("ann", "sell", 9, 1), order("bob", "sell", 10, 2),
                   order("cy", "buy", 10, 6, (8, 1, None), (9, 1, 0), (9, 1, None), (10, 1, None), (10, 2, 1))],
                  ["price"])
        self.told([order("ann", "sell", 9, 1), order("cy", "buy", 9, 2, (9, 1, 0)), order("bob", "sell", 9, 3, (9, 1, 1))])
        self.told([order("ann", "buy", 10, 3, (9, 2, None)), order("ann", "sell", 10, 2, (10, 1, 0))])

    def test_closed_part(self):
        rows = [("closed",), order("ann", "buy", 10, 3), order("bob", "sell", 9, 3)]
        self.told(rows)
        self.told(rows + [prints(), ("cancel", 1), order("cy", "buy", 9, 1)])
        self.told([("closed",)])

    def test_calls(self):
        rows = [("closed",), order("ann", "buy", 10, 3), order("bob", "sell", 9, 2), order("cy", "buy", 10, 1)]
        self.told(rows + [("call", 10, ((1, 3), (2, 2)))], ["time", "price"])
        self.told(rows + [("call", 10, ((1, 2), (2, 2), (3, 1))), prints((10, 1, 1))], ["late", "price"])
        self.told(rows + [("call", 10, ((1, 1), (2, 2))), prints((10, 2, 1)), prints((10, 1, None))], ["time", "price"])
        self.told(rows + [("call", 9, ((1, 3), (2, 1), (3, 1)))])
        self.barred(rows + [("call", 9, ((1, 3), (2, 1)))], 4)
        self.barred(rows + [("call", None, ())], 4)

    def test_call_without_fills(self):
        self.told([("closed",), order("ann", "buy", 10, 3), order("bob", "sell", 11, 2), ("call", 10, ())])
        self.told([("closed",), order("ann", "buy", 10, 3), order("bob", "sell", 12, 2), ("call", 11, ())])
        self.told([("closed",), ("call", 7, ())])

    def test_call_of_price_none(self):
        self.told([("closed",), ("call", None, ())])
        self.told([("closed",), order("ann", "buy", 10, 3), order("bob", "sell", 11, 2), ("call", None, ()),
                   prints((10, 1, None), (11, 2, None))])

    def test_strangers_before_and_behind_a_call(self):
        rows = [("closed",), order("ann", "buy", 10, 3), order("bob", "buy", 10, 2), order("cy", "sell", 12, 1)]
        self.told(rows + [("call", 10, ()), prints((10, 1, None), (10, 3, 1)), prints((10, 1, None), (10, 2, 2))],
                  ["time", "price"])
        self.told(rows + [("call", 10, ((1, 3),)), prints((10, 1, None)), prints((10, 1, 2))], ["time", "price"])
        self.told(rows + [("call", 10, ((2, 2),)), order("dan", "sell", 10, 4, (10, 3, 1), (10, 1, None))],
                  ["late", "price"])
        self.told(rows + [("call", 11, ()), prints((12, 2, None)), prints((10, 2, None))])

    def test_ends_behind_a_bar(self):
        self.barred(list(ROWS), 3, ["time"])
        self.barred(list(ROWS), 2, ["late"])
        self.told(ROWS, ["price"])
        self.barred([order("ann", "buy", 10, 3), order("bob", "sell", 10, 1), prints()], 1)
        self.barred([order("ann", "buy", 10, 3, (9, 1, None), (8, 1, None))], 0)

    def test_large_numbers(self):
        big = 10 ** 59
        self.told([order("ann", "buy", big, big), prints((big, big - 1, 0)), prints((big, 1, 0), (big + 1, big, None))])

    def test_thirty_rows(self):
        for rule in RULES:
            self.told(thirty_rows(rule)[1], [rule])
            self.barred(thirty_rows(rule)[1][:29] + (prints((11, 1, None)),), 29, [rule])

    def test_the_documents_examples(self):
        self.assertEqual([is_explained(RECORD), explained_rows(RECORD), day_for(RECORD)], [False, 3, None])
        self.assertEqual(record_told(day_for(("price", ROWS))), ("price", ROWS))

    def test_by_name(self):
        self.assertEqual([is_explained(record=RECORD), explained_rows(record=RECORD), day_for(record=RECORD)],
                         [False, 3, None])

    def test_kinds_of_results(self):
        day = day_for(("price", ROWS))
        self.assertIs(type(day), tuple)
        self.assertIs(type(day[1]), tuple)
        for acts in day[1]:
            self.assertIs(type(acts), tuple)
            for act in acts:
                self.assertIs(type(act), tuple)
                self.assertIs(type(act[-1]), tuple)


class Made(unittest.TestCase):
    def test_made_records(self):
        explained = 0
        for fair, prices in ((0.4, (9, 10, 11)), (0.9, (9, 10, 11)), (1.0, (10, 11)), (1.0, (10,))):
            for record in made_records(11, 2000, many=10, fair=fair, prices=prices):
                bars = found_bars(record)
                self.assertEqual(is_explained(record), not bars)
                self.assertEqual(explained_rows(record), min((bar[1] for bar in bars), default=len(record[1])))
                if bars:
                    self.assertIsNone(day_for(record))
                else:
                    explained += 1
                    self.assertEqual(record_told(day_for(record)), record)
        self.assertGreater(explained, 4000)

    def test_beginnings(self):
        for rule, rows in made_records(12, 100, fair=0.7):
            whole = explained_rows((rule, rows))
            for t in range(len(rows) + 1):
                self.assertEqual(explained_rows((rule, rows[:t])), min(t, whole))
                self.assertEqual(is_explained((rule, rows[:t])), t <= whole)

    def test_the_record_of_a_day_is_explained_and_so_is_what_some_see(self):
        for day in made_days(13, 400):
            record = record_told(day)
            self.assertEqual(lets_record(record), len(record[1]))
            for group in groups_in(record[1]):
                view = seen_by(record, group)
                self.assertEqual(bars_of(view), ())
                self.assertEqual(record_told(day_for(view)), view)

    def test_explained_by_time_or_late_is_explained_by_price(self):
        for rule, rows in made_records(14, 300, fair=0.9):
            if is_explained((rule, rows)):
                self.assertTrue(is_explained(("price", rows)))

    def test_empty_prints_at_the_end_change_nothing(self):
        for rule, rows in made_records(15, 300, fair=0.8):
            longer = (rule, rows + (prints(),))
            if is_explained((rule, rows)):
                self.assertEqual(explained_rows(longer), len(rows) + 1)
            else:
                self.assertEqual(explained_rows(longer), explained_rows((rule, rows)))


class OwnBook(unittest.TestCase):
    """The tests' own book refuses days that are not by the rule: otherwise it would show nothing."""

    def refuse(self, *steps, rules=RULES):
        for rule in rules:
            with self.assertRaises(DayError):
                record_told((rule, steps))

    def stranger(self, side, price, size, *fills):
        return "order", None, side, price, size, fills

    def test_fills(self):
        sell = (self.stranger("sell", 10, 2),)
        self.refuse(sell, (self.stranger("buy", 10, 1),))
        self.refuse(sell, (self.stranger("buy", 10, 1, (10, 2, (0, 0))),))
        self.refuse(sell, (self.stranger("buy", 10, 3, (10, 1, (0, 0))),))
        self.refuse(sell, (self.stranger("buy", 9, 1, (10, 1, (0, 0))),))
        self.refuse(sell, (self.stranger("buy", 10, 1, (10, 1, (1, 0))),))
        self.refuse(sell, (self.stranger("sell", 9, 1),), (self.stranger("buy", 10, 1, (10, 1, (0, 0))),))

    def test_turns(self):
        sells = (self.stranger("sell", 10, 1), self.stranger("sell", 10, 1))
        for rule, a in (("time", 1), ("late", 0)):
            self.refuse(sells, (self.stranger("buy", 10, 1, (10, 1, (0, a))),), rules=[rule])
            record_told((rule, (sells, (self.stranger("buy", 10, 1, (10, 1, (0, 1 - a))),))))

    def test_steps(self):
        ann = ("order", "ann", "buy", 9, 1, ())
        self.refuse((ann, self.stranger("buy", 9, 1)))
        self.refuse((self.stranger("sell", 9, 1), self.stranger("buy", 9, 1, (9, 1, (0, 0))), ann))
        self.refuse((ann,), (("cancel", (0, 0)), self.stranger("buy", 9, 1)))
        self.refuse((("cancel", (0, 0)),))
        self.refuse((), (("closed",),))

    def test_calls(self):
        closed = (("closed",),)
        orders = (self.stranger("buy", 10, 2), self.stranger("sell", 8, 1))
        self.refuse((("call", None, ()),))
        self.refuse(closed, orders, (("call", None, ()),))
        self.refuse(closed, orders, (("call", 9, ()),))
        self.refuse(closed, orders, (("call", 11, (((1, 0), 1), ((1, 1), 1))),))
        self.refuse(closed, orders, (("call", 9, (((1, 0), 1), ((1, 1), 1))),))
        self.refuse(closed, orders, (("call", 10, (((1, 0), 2), ((1, 1), 1))),))
        record_told(("time", (closed, orders, (("call", 10, (((1, 0), 1), ((1, 1), 1))),))))


if __name__ == "__main__":
    unittest.main()
