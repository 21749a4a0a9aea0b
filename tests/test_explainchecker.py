import copy
import random
import unittest

from fairshown.bars import bars_of
from fairshown.errors import InvalidPaper
from fairshown.explainchecker import lets_explained
from fairshown.explaining import day_for

from helper import ANY_VALUES, RECORD, ROWS, RULES, explain_answer, first_fault, made_days, made_records, record_told
from helper import thirty_rows

DAY = ('time', ((('order', None, 'buy', 10, 1, ()), ('order', 'ann', 'buy', 10, 3, ())),
                (('order', None, 'sell', 10, 2, ((10, 1, (0, 0)), (10, 1, (0, 1)))),)))


class LetsExplained(unittest.TestCase):
    def check(self, record, thing):
        before = copy.deepcopy((record, thing))
        right = explain_answer(record, thing)
        if isinstance(right, bool):
            self.assertIs(lets_explained(record, thing), right)
        else:
            with self.assertRaises(InvalidPaper) as caught:
                lets_explained(record, thing)
            self.assertEqual(vars(caught.exception), {"word": right[0], "at": right[1]})
        self.assertEqual((record, thing), before)
        return right

    def test_the_examples(self):
        self.assertIs(lets_explained(RECORD, ('bar', ('front', 3, 0, 0, 2))), False)
        with self.assertRaises(InvalidPaper) as caught:
            lets_explained(('late', ROWS[:1]), ('day', ('late', ((), ()))))
        self.assertEqual(vars(caught.exception), {"word": "row", "at": 0})

    def test_papers_of_made_records(self):
        told = {True: 0, False: 0}
        for record in made_records(101, 600, fair=0.8):
            bars = bars_of(record)
            for bar in bars:
                self.assertIs(self.check(record, ("bar", bar)), False)
                # A bar stays if the record is cut behind its row.
                self.assertIs(self.check((record[0], record[1][:bar[1] + 1]), ("bar", bar)), False)
            day = day_for(record)
            told[day is not None] += 1
            self.assertIs(day is None, bars != ())
            if day is not None:
                self.assertIs(self.check(record, ("day", day)), True)
        self.assertGreater(min(told.values()), 50)

    def test_papers_of_made_days(self):
        days = list(made_days(102, 300))
        for day, other in zip(days, days[1:]):
            record = record_told(day)
            self.assertIs(self.check(record, ("day", day)), True)
            self.check(record, ("day", other))
            for rule in RULES:
                self.check((rule, record[1]), ("day", day))
                self.check(record, ("day", (rule, day[1])))
        for rule in RULES:
            self.assertIs(self.check(thirty_rows(rule), ("day", day_for(thirty_rows(rule)))), True)

    def test_form(self):
        for thing in ANY_VALUES + (("day",), ("bar",), ("day", DAY, DAY), ["day", DAY], ["bar", ("front", 3, 0, 0, 2)],
                                   ("Day", DAY), ("days", DAY), (None, DAY), (DAY, "day"), DAY, (("day",), DAY),
                                   (True, DAY), "day", "bar", ("front", 3, 0, 0, 2), (b"day", DAY)):
            self.assertEqual(self.check(RECORD, thing), ("form", -1))

    def test_any_values_inside(self):
        for thing in ANY_VALUES:
            self.assertEqual(self.check(RECORD, ("bar", thing)), ("bar", -1))
            right = self.check(RECORD, ("day", thing))
            self.assertIn(right, (("shape", -1), ("rule", -1)))

    def test_bars_of_others(self):
        bar = ("front", 3, 0, 0, 2)
        self.assertEqual(self.check(("late", ROWS), ("bar", bar)), ("bar", -1))
        self.assertIs(self.check(("late", ROWS), ("bar", ("ahead", 2, 1, 1, 0))), False)
        self.assertEqual(self.check(("price", ROWS), ("bar", ("ahead", 2, 1, 1, 0))), ("bar", -1))
        for other in (("front", 3, 0, 0, 1), ("front", 3, False, 0, 2), ["front", 3, 0, 0, 2], ("front", 3, 0, 0),
                      ("front", 3, 0, 0, 2, 0), ("front", 2, 0, 0, 2), ("front", 3, 0, 0, None), (bar,)):
            self.assertEqual(self.check(RECORD, ("bar", other)), ("bar", -1))

    def test_what_lets_day_raises_comes_first(self):
        for day, right in ((("slow", ()), ("rule", -1)), (("late", ((("closed",),), (("closed",),))), ("place", (1, 0))),
                           (("late", ((("order", "Ann", "buy", 9, 1, ()),),)), ("order", (0, 0))),
                           (("late", ((("cancel", (0, 0)),),)), ("cancel", (0, 0))),
                           (("late", DAY[1][:1] + ((("order", None, "sell", 10, 1, ((10, 1, (0, 0)),)),),)),
                            ("fills", (1, 0, 0))),
                           (("late", ((("closed",),), (("call", 9, ()),))), ("price", (1, 0)))):
            self.assertEqual(self.check(RECORD, ("day", day)), right)

    def test_by_comes_before_row(self):
        self.assertEqual(self.check(("late", ROWS), ("day", ("price", ()))), ("by", -1))
        self.assertEqual(self.check(("late", ()), ("day", ("price", ()))), ("by", -1))
        self.assertEqual(self.check(("late", ROWS), ("day", ("late", ()))), ("row", 0))
        self.assertIs(self.check(("late", ()), ("day", ("late", ()))), True)

    def test_a_beginning_of_the_other(self):
        record = record_told(DAY)
        self.assertIs(self.check(record, ("day", DAY)), True)
        self.assertEqual(self.check(("time", record[1][:1]), ("day", DAY)), ("row", 1))
        self.assertEqual(self.check(("time", record[1] + (("prints", ()),)), ("day", DAY)), ("row", 2))
        self.assertEqual(self.check(("time", ()), ("day", DAY)), ("row", 0))
        self.assertEqual(self.check(record, ("day", ("time", DAY[1] + ((),)))), ("row", 2))
        self.assertIs(self.check(("time", record[1] + (("prints", ()),)), ("day", ("time", DAY[1] + ((),)))), True)

    def test_a_row_that_differs(self):
        rng = random.Random(103)
        rows = set()
        for day in made_days(104, 300):
            rule, steps = day
            record = record_told(day)
            s = rng.randrange(len(steps))
            other = rng.choice(((("prints", ()),), (("prints", ((9, 1, None),)),), (), (record[1][s],) * 2))
            wrong = (rule, record[1][:s] + other + record[1][s + 1:])
            if first_fault(wrong) != len(wrong[1]):
                continue
            right = self.check(wrong, ("day", day))
            if right is not True:
                self.assertEqual(right[0], "row")
                rows.add(right[1])
        self.assertGreater(len(rows), 5)

    def test_arguments_by_name(self):
        self.assertIs(lets_explained(record=record_told(DAY), thing=("day", DAY)), True)


if __name__ == "__main__":
    unittest.main()
