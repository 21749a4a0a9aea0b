import copy
import unittest

from fairshown.errors import NotUsable, UnknownOrder
from fairshown.explaining import day_for, is_explained
from fairshown.fronts import front_since, fronts_at, stood_before, took_as_it_came, went_ahead
from fairshown.recordchecker import lets_record

from helper import ANY_VALUES, RECORD, ROWS, RULES, first_fault, front_of, is_open, led, made_days, made_records
from helper import open_in, order, orders_in, own_fills, prints, record_told, rest_of, took_and_rested


def fills_to_strangers(rows, n):
    """(t, i, size) of each fill to a stranger at the price of order n, in rows that are no orders of its side."""
    for t, row in enumerate(rows):
        if row[0] == "order" and row[2] == rows[n][2]:
            continue
        for i, (x, size, k) in enumerate(own_fills(row)):
            if k is None and x == rows[n][3]:
                yield t, i, size


def lots_ahead(rows, n):
    return sum(size for t, i, size in fills_to_strangers(rows, n) if is_open(rows, n, t, i))


def lots_before(record, n):
    rule, rows = record
    mates = [m for m in orders_in(rows[:n + 1]) if rows[m][2:4] == rows[n][2:4]]
    total = 0
    for t, i, size in fills_to_strangers(rows, n):
        if t <= n:
            continue
        if rule == "time" and any(is_open(rows, m, t, i) for m in mates):
            total += size
        if rule == "late" and rows[t][0] == "order":
            used = [k for _, _, k in rows[t][5][:i] if k is not None and rest_of(rows, k, t, i) == 0]
            if set(used) & set(mates):
                total += size
    return total


class Fronts(unittest.TestCase):
    def fronts(self, rows, *told):
        """By "time" the pairs that are in front before each row and behind all; by the other rules none is."""
        lets_record(("time", tuple(rows)))
        self.assertEqual(tuple(fronts_at(("time", tuple(rows)), t) for t in range(len(rows) + 1)), told)
        for rule in ("late", "price"):
            for t in range(len(rows) + 1):
                self.assertEqual(fronts_at((rule, tuple(rows)), t), ())

    def test_took_as_it_came(self):
        rows = (order("ann", "buy", 10, 2, (9, 1, None)), order("bob", "buy", 10, 2, (9, 2, None)),
                order("cy", "buy", 8, 2), prints((10, 1, 0)), order("ann", "sell", 8, 2, (10, 1, 0)),
                order("bob", "sell", 8, 3, (8, 1, 2), (8, 1, 2)))
        for rule in RULES:
            self.assertEqual([took_as_it_came((rule, rows), n) for n in (0, 1, 2, 4, 5)],
                             [True, False, False, True, True])
            for n in (0, 1):
                self.assertIs(type(took_as_it_came((rule, rows), n)), bool)

    def test_its_own_row(self):
        self.fronts([order("ann", "buy", 10, 2, (9, 1, None)), prints(), prints((10, 1, 0))],
                    (), ((0, 0),), ((0, 0),), ())
        self.fronts([order("ann", "buy", 10, 2, (9, 2, None)), prints()], (), (), ())
        self.fronts([order("ann", "buy", 10, 2, (9, 1, None)), prints((10, 1, 0)), prints((10, 1, None))],
                    (), ((0, 0),), (), ())
        self.fronts([order("ann", "buy", 10, 3, (9, 1, None)), prints((10, 1, 0)), ("cancel", 0)],
                    (), ((0, 0),), ((0, 0),), ())

    def test_hit_by_prints(self):
        self.fronts([order("ann", "buy", 10, 3), prints((10, 1, None)), prints((10, 1, 0)), prints((10, 1, 0))],
                    (), (), (), ((0, 2),), ((0, 2),))

    def test_hit_by_an_order(self):
        self.fronts([order("ann", "sell", 10, 3), order("bob", "buy", 11, 1, (10, 1, 0)), prints((10, 2, 0))],
                    (), (), ((0, 1),), ())

    def test_hit_by_a_call(self):
        rows = [("closed",), order("ann", "sell", 10, 3), order("bob", "sell", 10, 1)]
        self.fronts(rows + [("call", 10, ((1, 2),)), prints()], (), (), (), (), ((1, 3),), ((1, 3),))
        self.fronts(rows + [("call", 10, ((1, 3),)), prints()], (), (), (), (), (), ())
        self.fronts(rows + [("call", 10, ()), prints()], (), (), (), (), (), ())

    def test_two_orders_in_front(self):
        self.fronts([order("ann", "sell", 10, 3, (11, 1, None)), order("bob", "buy", 9, 2, (8, 1, None))],
                    (), ((0, 0),), ((0, 0), (1, 1)))

    def test_at_a_fill_before_it_and_behind_it(self):
        record = ("time", (order("ann", "buy", 10, 3), prints((10, 1, None), (10, 1, 0), (10, 1, 0))))
        self.assertEqual([fronts_at(record, 1, i) for i in range(3)], [(), (), ((0, 1),)])
        self.assertEqual([front_since(record, 0, 1, i) for i in range(3)], [None, None, 1])
        self.assertEqual(front_since(record, 0, 2), 1)
        taken = ("time", (order("ann", "buy", 10, 3), order("bob", "sell", 10, 3, (10, 1, 0), (10, 1, 0), (10, 1, 0))))
        self.assertEqual([front_since(taken, 0, 1, i) for i in range(3)], [None, 1, 1])
        self.assertIsNone(front_since(taken, 0, 2))

    def test_by_late_and_price_nobody_is(self):
        for rule in ("late", "price"):
            record = (rule, (order("ann", "buy", 10, 3, (9, 1, None)), prints((10, 1, 0))))
            self.assertIsNone(front_since(record, 0, 2))
            self.assertEqual(fronts_at(record, 2), ())
            self.assertIs(took_as_it_came(record, 0), True)

    def test_not_open(self):
        record = ("time", (order("ann", "buy", 10, 2, (9, 1, None)), ("cancel", 0)))
        self.assertEqual([front_since(record, 0, t) for t in range(3)], [None, 0, None])

    def test_went_ahead(self):
        rows = (order("ann", "buy", 10, 3), prints((10, 2, None), (9, 9, None), (10, 1, 0), (10, 4, None)),
                order("bob", "sell", 10, 9, (10, 2, 0), (10, 7, None)), prints((10, 1, None)))
        for rule in RULES:
            self.assertEqual(went_ahead((rule, rows), 0), 6)
            self.assertEqual(went_ahead((rule, rows), 2), 0)
        same_side = (order("ann", "buy", 10, 3), order("bob", "buy", 10, 1, (10, 1, None)), prints((10, 5, None)))
        for rule in RULES:
            self.assertEqual([went_ahead((rule, same_side), n) for n in (0, 1)], [5, 0])
        cancelled = (order("ann", "buy", 10, 3), ("cancel", 0), prints((10, 5, None)))
        self.assertEqual(went_ahead(("time", cancelled), 0), 0)
        before = (prints((10, 5, None)), order("ann", "buy", 10, 3), prints((10, 1, None)))
        self.assertEqual(went_ahead(("time", before), 1), 1)

    def test_stood_before_by_time(self):
        rows = (order("ann", "buy", 10, 1), order("bob", "buy", 10, 1), order("cy", "buy", 9, 1), prints((10, 2, None)),
                prints((10, 1, 0), (10, 4, None)), prints((10, 1, 1), (10, 8, None)))
        self.assertEqual([stood_before(("time", rows), n) for n in (0, 1, 2)], [2, 6, 0])
        self.assertEqual([stood_before(("price", rows), n) for n in (0, 1, 2)], [0, 0, 0])
        self.assertEqual([stood_before(("late", rows), n) for n in (0, 1, 2)], [0, 0, 0])

    def test_stood_before_by_time_through_earlier_orders(self):
        rows = (order("ann", "sell", 10, 1), prints((10, 1, None)), order("bob", "sell", 10, 1), prints((10, 2, None)),
                order("cy", "buy", 10, 1, (10, 1, 0)), order("cy", "buy", 10, 4, (10, 4, None)), ("cancel", 2),
                prints((10, 16, None)))
        self.assertEqual([stood_before(("time", rows), n) for n in (0, 2, 4)], [3, 6, 0])

    def test_stood_before_by_late(self):
        rows = (order("ann", "buy", 10, 1), order("bob", "buy", 10, 1), order("cy", "buy", 10, 1),
                order("ann", "sell", 10, 15, (10, 1, None), (10, 1, 2), (10, 2, None), (10, 1, 1), (10, 4, None),
                      (10, 1, 0), (10, 5, None)))
        self.assertTrue(is_explained(("late", rows)))
        self.assertEqual([stood_before(("late", rows), n) for n in (0, 1, 2)], [5, 9, 11])
        self.assertEqual([stood_before(("price", rows), n) for n in (0, 1, 2)], [0, 0, 0])
        printed = rows[:3] + (prints((10, 1, 2), (10, 2, None)),)
        self.assertEqual([stood_before(("late", printed), n) for n in (0, 1, 2)], [0, 0, 0])
        earlier = rows[:1] + (order("bob", "sell", 10, 2, (10, 1, 0), (10, 1, None)), order("cy", "buy", 10, 1))
        self.assertEqual([stood_before(("late", earlier), n) for n in (0, 2)], [1, 0])
        twice = rows[:1] + (order("bob", "sell", 10, 1, (10, 1, 0)), order("bob", "sell", 10, 2, (10, 2, None)))
        self.assertEqual(stood_before(("late", twice), 0), 0)
        in_part = (order("ann", "buy", 10, 2), order("bob", "sell", 10, 2, (10, 1, 0), (10, 1, None)))
        self.assertEqual(stood_before(("late", in_part), 0), 0)


class Errors(unittest.TestCase):
    def test_no_order(self):
        for n in ANY_VALUES + (4, -2):
            if n in (0, 1) and type(n) is int:
                continue
            for function, more in ((took_as_it_came, ()), (went_ahead, ()), (stood_before, ()), (front_since, (0,)),
                                   (front_since, (99, None))):
                for rule in RULES:
                    with self.assertRaises(UnknownOrder) as caught:
                        function((rule, ROWS), n, *more)
                    self.assertIs(caught.exception.n, n)

    def test_no_place(self):
        wrong = [(t, 0) for t in ANY_VALUES + (5, -4) if type(t) is not int or not 0 <= t <= 4]
        wrong += [(2, i) for i in ANY_VALUES + (3,) if type(i) is not int or not 0 <= i < 2]
        wrong += [(0, 1), (4, 1), (4, None)]
        for t, i in wrong:
            for rule in RULES:
                for function, args in ((fronts_at, (t, i)), (front_since, (0, t, i))):
                    with self.assertRaises(NotUsable) as caught:
                        function((rule, ROWS), *args)
                    self.assertEqual((caught.exception.word, caught.exception.at), ("place", -1))

    def test_by_name(self):
        self.assertEqual(fronts_at(i=0, t=3, record=RECORD), ((0, 2),))
        self.assertEqual(front_since(i=0, t=3, n=0, record=RECORD), 2)
        self.assertIs(took_as_it_came(n=0, record=RECORD), False)
        self.assertEqual([went_ahead(n=0, record=RECORD), stood_before(n=1, record=RECORD)], [2, 2])

    def test_the_documents_example(self):
        self.assertEqual([fronts_at(RECORD, 3), took_as_it_came(RECORD, 0), went_ahead(RECORD, 0),
                          went_ahead(RECORD, 1)], [((0, 2),), False, 2, 2])

    def test_arguments_stay_as_they_are(self):
        thing = [0, [1]]
        before = copy.deepcopy(thing)
        for function, args in ((took_as_it_came, (thing,)), (front_since, (0, thing)), (fronts_at, (0, thing))):
            with self.assertRaises((UnknownOrder, NotUsable)):
                function(RECORD, *args)
        self.assertEqual(thing, before)


class Made(unittest.TestCase):
    def test_all_orders_and_places(self):
        for record in made_records(41, 240, fair=0.6):
            rows = record[1]
            for t in range(len(rows) + 1):
                for i in range(max(1, len(own_fills(rows[t])) if t < len(rows) else 1)):
                    fronts = [(n, front_of(record, n, t, i)) for n in orders_in(rows)]
                    self.assertEqual([(n, front_since(record, n, t, i)) for n in orders_in(rows)], fronts)
                    self.assertEqual(fronts_at(record, t, i), tuple(pair for pair in fronts if pair[1] is not None))
            for n in orders_in(rows):
                self.assertEqual(took_as_it_came(record, n), took_and_rested(rows, n))
                self.assertEqual(went_ahead(record, n), lots_ahead(rows, n))
                self.assertEqual(stood_before(record, n), lots_before(record, n))

    def test_at_one_price_at_most_one_order_is_in_front(self):
        for record in made_records(42, 300, fair=1.0):
            rows = record[1]
            for t in range(len(rows) + 1):
                prices = [rows[n][2:4] for n, _ in fronts_at(record, t)]
                self.assertEqual(len(prices), len(set(prices)))

    def must_be_shown(self, day):
        """In this day nobody stands ahead of an order in front, and stood_before stand there as an order comes."""
        record = record_told(day)
        book = led(day)
        names = {n: (n, len(day[1][n]) - 1) for n in orders_in(record[1])}
        for t, standing in enumerate(book.before_step):
            for n, _ in fronts_at(record, t):
                there = [name for name, _, side, price, _ in standing if (side, price) == record[1][n][2:4]]
                self.assertEqual(there[0], names[n])
        for n, name in names.items():
            there = [rest for _, member, side, price, rest in book.as_it_came[name]
                     if member is None and (side, price) == record[1][n][2:4]]
            self.assertGreaterEqual(sum(there), stood_before(record, n))

    def test_in_days(self):
        for day in made_days(43, 300):
            self.must_be_shown(day)
            self.must_be_shown(day_for(record_told(day)))
        for record in made_records(44, 200, fair=1.0):
            self.must_be_shown(day_for(record))

    def test_who_is_not_in_front_may_have_somebody_ahead(self):
        found = 0
        for _, rows in made_records(45, 400, fair=1.0):
            if not is_explained(("time", rows)):
                continue
            fronts = [n for n, _ in fronts_at(("time", rows), len(rows))]
            for n in open_in(rows, len(rows)):
                longer = ("time", rows + (prints((rows[n][3], 1, None)),))
                if n in fronts:
                    self.assertFalse(is_explained(longer))
                elif lets_stand(longer) and is_explained(longer):
                    day = day_for(longer)
                    standing = led(day).before_step[-1]
                    there = [name for name, _, side, price, _ in standing if (side, price) == rows[n][2:4]]
                    self.assertNotEqual(there[0], (n, len(day[1][n]) - 1))
                    found += 1
        self.assertGreater(found, 50)


def lets_stand(record):
    return first_fault(record) == len(record[1])


if __name__ == "__main__":
    unittest.main()
