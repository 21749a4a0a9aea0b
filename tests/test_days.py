import copy
import unittest

from fairshown.bars import bars_of
from fairshown.daychecker import lets_day
from fairshown.days import members_in, record_of, resting_in, stranger_lots, strangers_in
from fairshown.errors import NotUsable
from fairshown.explaining import day_for, explained_rows, is_explained
from fairshown.recordchecker import lets_record

from helper import ANY_VALUES, RECORD, ROWS, RULES, found_bars, groups_in, led, made_days, made_records, order
from helper import record_told, seen_by

DAY = ('time', ((('order', None, 'buy', 10, 1, ()), ('order', 'ann', 'buy', 10, 3, ())),
                (('order', None, 'sell', 10, 2, ((10, 1, (0, 0)), (10, 1, (0, 1)))),)))


def orders_of(day):
    return [((s, a), act) for s, acts in enumerate(day[1]) for a, act in enumerate(acts) if act[0] == "order"]


def rests_behind(day):
    """What rests behind each step of a day in a book of the tests' own."""
    rule, steps = day
    return [tuple(sorted((one[0], one[4]) for one in led((rule, steps[:s + 1])).standing()))
            for s in range(len(steps))]


class Examples(unittest.TestCase):
    def test_of_the_days(self):
        self.assertEqual([record_of(DAY), stranger_lots(DAY)],
                         [('time', (('order', 'ann', 'buy', 10, 3, ()), ('prints', ((10, 1, None), (10, 1, 0))))), 3])

    def test_of_the_days_that_explain(self):
        self.assertEqual([is_explained(RECORD), explained_rows(RECORD), day_for(RECORD),
                          record_of(day_for(('price', ROWS))) == ('price', ROWS)], [False, 3, None, True])

    def test_what_the_others_tell_of_it(self):
        self.assertEqual(members_in(DAY), ("ann",))
        self.assertEqual(strangers_in(DAY), ((0, 0), (1, 0)))
        self.assertEqual(resting_in(DAY, 0), (((0, 0), 1), ((0, 1), 3)))
        self.assertEqual(resting_in(DAY, 1), (((0, 1), 2),))


class Days(unittest.TestCase):
    def test_made_days(self):
        for day in made_days(81, 500):
            before = copy.deepcopy(day)
            orders = orders_of(day)
            self.assertEqual(record_of(day), record_told(day))
            self.assertEqual(members_in(day), tuple(sorted({act[1] for _, act in orders} - {None})))
            strangers = [name for name, act in orders if act[1] is None]
            self.assertEqual(strangers_in(day), tuple(strangers))
            self.assertEqual(stranger_lots(day), sum(act[4] for _, act in orders if act[1] is None))
            rests = rests_behind(day)
            for s in range(len(day[1])):
                self.assertEqual(resting_in(day, s), rests[s])
            self.assertEqual(day, before)

    def test_results_are_of_their_kind(self):
        for day in list(made_days(82, 30)) + [("late", ())]:
            record = record_of(day)
            for result in (record, record[1], members_in(day), strangers_in(day)):
                self.assertIs(type(result), tuple)
            self.assertEqual(lets_record(record), len(day[1]))
            self.assertIs(type(stranger_lots(day)), int)
            for s in range(len(day[1])):
                self.assertIs(type(resting_in(day, s)), tuple)

    def test_a_day_without_steps(self):
        for rule in RULES:
            self.assertEqual((record_of((rule, ())), members_in((rule, ())), strangers_in((rule, ())),
                              stranger_lots((rule, ()))), ((rule, ()), (), (), 0))

    def test_steps_without_acts(self):
        for rule in RULES:
            day = (rule, ((), (order(None, "buy", 9, 1),), ()))
            self.assertEqual(record_of(day), (rule, (("prints", ()),) * 3))
            self.assertEqual([resting_in(day, s) for s in range(3)], [(), (((1, 0), 1),), (((1, 0), 1),)])
            self.assertEqual(strangers_in(day), ((1, 0),))

    def test_a_step_of_several_strangers(self):
        steps = ((order("ann", "buy", 9, 4),),
                 (order(None, "buy", 9, 1), order(None, "sell", 9, 2, (9, 2, (0, 0))), ("cancel", (1, 0)),
                  order(None, "sell", 8, 3, (9, 2, (0, 0)))),
                 (order(None, "buy", 8, 2, (8, 1, (1, 3))), order("bob", "sell", 8, 1, (8, 1, (2, 0)))))
        self.assertEqual(lets_day(("time", steps[:2])), 2)
        self.assertEqual(record_of(("time", steps[:2]))[1],
                         (order("ann", "buy", 9, 4), ("prints", ((9, 2, 0), (9, 2, 0)))))
        self.assertEqual(resting_in(("time", steps[:2]), 1), (((1, 3), 1),))
        # A member's act shows nothing of the strangers before it, who have no fills then.
        day = ("late", (steps[0], (order(None, "buy", 9, 1), order(None, "sell", 11, 1),
                                   order("bob", "sell", 9, 3, (9, 1, (1, 0)), (9, 2, (0, 0))))))
        self.assertEqual(lets_day(day), 2)
        self.assertEqual(record_of(day)[1][1], order("bob", "sell", 9, 3, (9, 1, None), (9, 2, 0)))
        self.assertEqual(members_in(day), ("ann", "bob"))
        self.assertEqual(stranger_lots(day), 2)
        self.assertEqual(resting_in(day, 1), (((0, 0), 2), ((1, 1), 1)))

    def test_cancels(self):
        day = ("price", ((order(None, "buy", 9, 1),), (order("ann", "buy", 8, 1),), (("cancel", (0, 0)),),
                         (order(None, "buy", 7, 1), ("cancel", (1, 0)))))
        self.assertEqual(lets_day(day), 4)
        self.assertEqual(record_of(day)[1], (("prints", ()), order("ann", "buy", 8, 1), ("prints", ()), ("cancel", 1)))
        self.assertEqual(resting_in(day, 3), (((3, 0), 1),))

    def test_a_closed_part(self):
        for rule in RULES:
            steps = ((("closed",),), (order(None, "buy", 10, 2), order("ann", "buy", 10, 3)), (),
                     (order("bob", "sell", 9, 5),), (order(None, "sell", 12, 1), ("call", 10, (((1, 0), 2), ((1, 1), 3),
                                                                                              ((3, 0), 5)))))
            day = (rule, steps)
            self.assertEqual(lets_day(day), 5)
            self.assertEqual(record_of(day)[1], (("closed",), order("ann", "buy", 10, 3), ("prints", ()),
                                                 order("bob", "sell", 9, 5), ("call", 10, ((1, 3), (3, 5)))))
            self.assertEqual(resting_in(day, 3), (((1, 0), 2), ((1, 1), 3), ((3, 0), 5)))
            self.assertEqual(resting_in(day, 4), (((4, 0), 1),))
            none = (rule, steps[:2] + ((("call", None, ()),),))
            self.assertEqual(record_of(none)[1][2], ("call", None, ()))
            self.assertEqual(record_of((rule, steps[:3]))[1][0], ("closed",))

    def test_what_is_no_index_of_a_step(self):
        for day in (DAY, ("late", ()), ("price", ((),))):
            for thing in ANY_VALUES + (-1, len(day[1]), len(day[1]) + 1, 0.5, "0", (0,), (0, 0), [0]):
                if isinstance(thing, bool) or thing not in range(len(day[1])):
                    with self.assertRaises(NotUsable) as caught:
                        resting_in(day, thing)
                    self.assertEqual(vars(caught.exception), {"word": "step", "at": -1})
        self.assertEqual(resting_in(DAY, 1), (((0, 1), 2),))

    def test_arguments_by_name(self):
        self.assertEqual(record_of(day=DAY)[0], "time")
        self.assertEqual((members_in(day=DAY), strangers_in(day=DAY)), (("ann",), ((0, 0), (1, 0))))
        self.assertEqual((stranger_lots(day=DAY), resting_in(day=DAY, s=1)), (3, (((0, 1), 2),)))


class Consequences(unittest.TestCase):
    def test_a_beginning_and_its_record(self):
        for day in made_days(83, 150):
            rule, steps = day
            for s in range(len(steps)):
                self.assertEqual(lets_day((rule, steps[:s])), s)
                self.assertEqual(record_of((rule, steps[:s])), (rule, record_of(day)[1][:s]))
            longer = (rule, steps + ((),))
            self.assertEqual(lets_day(longer), len(steps) + 1)
            self.assertEqual(record_of(longer), (rule, record_of(day)[1] + (("prints", ()),)))
            self.assertEqual(lets_day(("price", steps)), len(steps))
            self.assertEqual(record_of(("price", steps)), ("price", record_of(day)[1]))

    def test_the_record_of_a_day_has_no_bar(self):
        for day in made_days(84, 200):
            record = record_of(day)
            self.assertEqual(bars_of(record), ())
            self.assertEqual(found_bars(record), ())
            for group in groups_in(record[1]):
                self.assertEqual(bars_of(seen_by(record, group)), ())

    def test_the_days_that_explain(self):
        told = {True: 0, False: 0}
        for record in made_records(85, 600, fair=0.8):
            day = day_for(record)
            told[day is None] += 1
            if day is not None:
                self.assertEqual(lets_day(day), len(record[1]))
                self.assertEqual(record_of(day), record)
        self.assertGreater(min(told.values()), 50)


if __name__ == "__main__":
    unittest.main()
