import copy
import inspect
import itertools
import random
import unittest

from fairshown.answers import answers_to, can_follow, next_prints
from fairshown.errors import NotUsable
from fairshown.recordchecker import lets_record

from helper import ANY_VALUES, RECORD, ROWS, RULES, closed_before, found_bars, groups_in, is_answer, made_days
from helper import made_records, made_row, open_in, order, orders_in, prints, record_told, seen_by, thirty_rows

GOOD = ("time", ROWS[:3])
CLOSED = (("closed",), ("order", "ann", "buy", 10, 2, ()))


def by_none_first(fills):
    return tuple((price, size, -1 if n is None else n) for price, size, n in fills)


def all_answers(record, asked, prices, most):
    """The same fills, found by trying all."""
    size = asked[4]
    names = [None] + orders_in(record[1])
    single = list(itertools.product(prices, range(1, size + 1), names))
    found = []
    for many in range(most + 1):
        for fills in itertools.product(single, repeat=many):
            if sum(fill[1] for fill in fills) <= size and is_answer(record, asked + (fills,)):
                found.append(fills)
    return sorted(found, key=by_none_first)


class CanFollow(unittest.TestCase):
    def test_any_values(self):
        for record in (GOOD, ("late", ()), ("price", CLOSED)):
            for thing in ANY_VALUES:
                self.assertIs(can_follow(record, thing), thing == ("prints", ())
                              or record[1] == () and thing == ("closed",)
                              or record is GOOD and thing == ("cancel", 0), thing)

    def test_each_kind_of_row(self):
        for row, answer in ((prints(), True), (prints((10, 1, 0)), True), (prints((10, 1, 1)), False),
                            (prints((10, 1, None)), False), (prints((11, 1, None)), True), (prints((9, 1, None)), False),
                            (prints((10, 3, 0)), False), (prints((10, 2, 0), (10, 1, None), (10, 2, 1)), True),
                            (("cancel", 0), True), (("cancel", 1), True), (("cancel", 2), False),
                            (("closed",), False), (("call", None, ()), False), (("call", 10, ()), False),
                            (order("cy", "sell", 11, 2), True), (order("cy", "sell", 10, 2), False),
                            (order("cy", "sell", 10, 2, (10, 2, 0)), True), (order("cy", "buy", 12, 2), True)):
            self.assertIs(can_follow(GOOD, row), answer, row)

    def test_closed_part(self):
        for rule in RULES:
            self.assertTrue(can_follow((rule, CLOSED), order("bob", "sell", 9, 2)))
            self.assertFalse(can_follow((rule, CLOSED), order("bob", "sell", 9, 2, (10, 2, 1))))
            self.assertFalse(can_follow((rule, CLOSED), prints((11, 1, None))))
            self.assertTrue(can_follow((rule, CLOSED), ("call", 10, ((1, 2),))))
            self.assertTrue(can_follow((rule, CLOSED), ("call", None, ())))
            self.assertFalse(can_follow((rule, CLOSED), ("call", 9, ())))
            self.assertFalse(can_follow((rule, CLOSED), ("closed",)))

    def test_nothing_follows_what_is_not_explained(self):
        for row in (prints(), ("cancel", 0), ("cancel", 1), prints((10, 1, 0))):
            self.assertIs(can_follow(RECORD, row), False)

    def test_made_rows(self):
        rng = random.Random(61)
        told = {True: 0, False: 0}
        for record in made_records(62, 900, many=7, fair=0.97):
            row = made_row(rng, record[1], closed_before(record[1], len(record[1])))
            answer = is_answer(record, row)
            told[answer] += 1
            self.assertIs(can_follow(record, row), answer)
        self.assertGreater(min(told.values()), 100)

    def test_what_can_always_follow(self):
        for record in made_records(63, 200, fair=1.0):
            self.assertTrue(can_follow(record, prints()))
            for n in open_in(record[1], len(record[1])):
                self.assertTrue(can_follow(record, ("cancel", n)))

    def test_each_row_of_a_day_follows_for_each_group(self):
        for day in made_days(64, 60):
            for group in groups_in(record_told(day)[1]):
                rule, rows = seen_by(record_told(day), group)
                for t, row in enumerate(rows):
                    self.assertTrue(can_follow((rule, rows[:t]), row))


class Answers(unittest.TestCase):
    def told(self, record, *args, **more):
        found = list(answers_to(record, *args, **more))
        for fills in found:
            self.assertIs(type(fills), tuple)
            self.assertEqual(lets_record((record[0], record[1] + (("order",) + args[:4] + (fills,),))),
                             len(record[1]) + 1)
        return found

    def test_a_generator(self):
        self.assertTrue(inspect.isgenerator(answers_to(GOOD, "cy", "sell", 10, 3, (10,))))
        found = answers_to(GOOD, "cy", "sell", 10, 3, (10,))
        self.assertEqual(next(found), ((10, 2, 0), (10, 1, None)))
        self.assertEqual(list(found), [((10, 2, 0), (10, 1, 1))])

    def test_none_comes_ahead_of_numbers(self):
        record = ("price", (order("ann", "buy", 10, 1), order("bob", "buy", 10, 1)))
        self.assertEqual(self.told(record, "cy", "sell", 10, 2, (10,)), [
            ((10, 1, None), (10, 1, None)), ((10, 1, None), (10, 1, 0)), ((10, 1, None), (10, 1, 1)),
            ((10, 1, 0), (10, 1, None)), ((10, 1, 0), (10, 1, 1)), ((10, 1, 1), (10, 1, None)),
            ((10, 1, 1), (10, 1, 0)), ((10, 2, None),)])
        self.assertEqual(self.told(record, "cy", "sell", 10, 1, (10,)), [
            ((10, 1, None),), ((10, 1, 0),), ((10, 1, 1),)])
        self.assertEqual(self.told(("late", record[1]), "cy", "sell", 10, 1, (10,)), [((10, 1, None),), ((10, 1, 1),)])
        self.assertEqual(self.told(("time", record[1]), "cy", "sell", 10, 1, (10,)), [((10, 1, None),), ((10, 1, 0),)])

    def test_no_order_to_cross(self):
        empty = ("time", ())
        self.assertEqual(self.told(empty, "ann", "buy", 10, 1, (9, 10, 11)), [(), ((9, 1, None),), ((10, 1, None),)])
        self.assertEqual(self.told(empty, "ann", "sell", 10, 2, (10, 11), most=1), [
            (), ((10, 1, None),), ((10, 2, None),), ((11, 1, None),), ((11, 2, None),)])
        self.assertEqual(self.told(empty, "ann", "sell", 10, 2, (10, 11)), [
            (), ((10, 1, None),), ((10, 1, None), (10, 1, None)), ((10, 2, None),), ((11, 1, None),),
            ((11, 1, None), (10, 1, None)), ((11, 1, None), (11, 1, None)), ((11, 2, None),)])

    def test_most(self):
        record = ("time", ())
        self.assertEqual(self.told(record, "ann", "buy", 10, 4, (10,), most=0), [()])
        for most in range(5):
            found = self.told(record, "ann", "buy", 10, 4, (10,), most=most)
            self.assertEqual(max(map(len, found)), most)
        self.assertEqual(self.told(record, "ann", "buy", 10, 4, (10,)),
                         self.told(record, "ann", "buy", 10, 4, (10,), most=3))
        self.assertEqual(self.told(record, "ann", "buy", 10, 2, (10,), most=10 ** 59),
                         self.told(record, "ann", "buy", 10, 2, (10,), most=2))

    def test_no_prices(self):
        self.assertEqual(self.told(("time", ()), "ann", "buy", 10, 4, ()), [()])
        self.assertEqual(self.told(GOOD, "ann", "sell", 10, 4, ()), [])

    def test_closed_part(self):
        for rule in RULES:
            self.assertEqual(self.told((rule, CLOSED), "bob", "sell", 10, 2, (10, 11)), [()])
            self.assertEqual(self.told((rule, CLOSED), "bob", "sell", 10, 2, (10,), most=0), [()])
            called = (rule, CLOSED + (("call", 10, ((1, 1),)),))
            told = [((10, 1, 1),)] if rule == "time" else [((10, 1, None),), ((10, 1, 1),)]
            self.assertEqual(self.told(called, "bob", "sell", 10, 1, (10,)), told)

    def test_nothing_for_what_is_not_explained(self):
        self.assertEqual(self.told(RECORD, "cy", "sell", 10, 3, (10,)), [])
        self.assertEqual(self.told(RECORD, "cy", "buy", 1, 1, ()), [])

    def test_trying_all(self):
        rng = random.Random(65)
        several = 0
        for record in made_records(66, 120, many=6, fair=0.98):
            side, price, size = rng.choice(("buy", "sell")), rng.choice((9, 10, 11)), rng.randint(1, 3)
            prices, most = rng.choice(((10,), (9, 10), (10, 11))), rng.choice((0, 1, 2, 2))
            found = self.told(record, "dan", side, price, size, prices, most=most)
            expected = all_answers(record, ("order", "dan", side, price, size), prices, most)
            self.assertEqual(found, expected)
            several += len(found) > 1
        self.assertGreater(several, 10)

    def test_trying_all_with_three_fills(self):
        rows = (order("ann", "sell", 10, 1), order("bob", "sell", 9, 1), order("cy", "sell", 10, 2))
        for rule in RULES:
            for asked in (("order", "dan", "buy", 10, 3), ("order", "ann", "buy", 10, 4)):
                found = self.told((rule, rows), *asked[1:], (9, 10))
                self.assertEqual(found, all_answers((rule, rows), asked, (9, 10), 3))
                self.assertTrue(found)

    def test_six_open_orders_and_three_prices(self):
        rows = tuple(order("ann", "sell", 9 + k // 2, 1 + k // 3) for k in range(6))
        found = self.told(("price", rows), "bob", "buy", 11, 4, (9, 10, 11))
        self.assertEqual(found, sorted(found, key=by_none_first))
        self.assertEqual(len(found), len(set(found)))
        self.assertTrue(all(is_answer(("price", rows), order("bob", "buy", 11, 4, *fills)) for fills in found))

    def must_be_unusable(self, word, *args, **more):
        for record in (GOOD, RECORD):
            found = answers_to(record, *args, **more)
            with self.assertRaises(NotUsable) as caught:
                next(found)
            self.assertEqual((caught.exception.word, caught.exception.at), (word, -1))

    def test_unusable_order(self):
        for thing in ANY_VALUES + (["buy"], 0, -3):
            if not (isinstance(thing, str) and 1 <= len(thing) <= 8 and thing.isalpha() and thing.islower()):
                self.must_be_unusable("order", thing, "buy", 10, 3, (10,))
            if thing not in ("buy", "sell"):
                self.must_be_unusable("order", "ann", thing, 10, 3, (10,))
            if type(thing) is not int or thing < 1:
                self.must_be_unusable("order", "ann", "buy", thing, 3, (10,))
                self.must_be_unusable("order", "ann", "buy", 10, thing, (10,))

    def test_unusable_prices(self):
        for thing in ANY_VALUES + ((10, 10), (11, 10), [10], (0,), (-1, 1), (True,), (10, None), ((10,),), ("10",)):
            if thing not in ((), (1,)):
                self.must_be_unusable("prices", "ann", "buy", 10, 3, thing)

    def test_unusable_most(self):
        for thing in ANY_VALUES:
            if type(thing) is not int or thing < 0:
                self.must_be_unusable("most", "ann", "buy", 10, 3, (10,), most=thing)

    def test_the_first_of_several_errors(self):
        self.must_be_unusable("order", None, "buy", 10, 3, None, most=None)
        self.must_be_unusable("order", "ann", "buy", 10, 0, [], most=-1)
        self.must_be_unusable("prices", "ann", "buy", 10, 3, [], most=-1)

    def test_errors_only_when_the_first_is_asked_for(self):
        found = answers_to(GOOD, None, None, None, None, None, most=None)
        self.assertTrue(inspect.isgenerator(found))

    def test_by_name(self):
        found = answers_to(most=3, prices=(10,), size=3, price=10, side="sell", member="cy", record=GOOD)
        self.assertEqual(list(found), [((10, 2, 0), (10, 1, None)), ((10, 2, 0), (10, 1, 1))])
        with self.assertRaises(TypeError):
            answers_to(GOOD, "cy", "sell", 10, 3, (10,), 3)


class NextPrints(unittest.TestCase):
    def test_ascending_with_none_first(self):
        rows = (order("ann", "buy", 10, 1), order("bob", "buy", 10, 1), order("cy", "sell", 12, 1))
        told = {"time": ((10, 1, None), (10, 1, 0)), "late": ((10, 1, None), (10, 1, 1)),
                "price": ((10, 1, None), (10, 1, 0), (10, 1, 1))}
        for rule in RULES:
            found = next_prints((rule, rows), (9, 10, 11, 12, 13))
            self.assertEqual(found, told[rule] + ((11, 1, None), (12, 1, None), (12, 1, 2)))
            self.assertIs(type(found), tuple)

    def test_size(self):
        rows = (order("ann", "buy", 10, 2),)
        self.assertEqual(next_prints(("time", rows), (10,), size=2), ((10, 2, None), (10, 2, 0)))
        self.assertEqual(next_prints(("time", rows), (10,), size=3), ((10, 3, None),))
        self.assertEqual(next_prints(("time", rows), (10,)), next_prints(("time", rows), (10,), size=1))
        self.assertEqual(next_prints(("time", ()), (7,), size=10 ** 59), ((7, 10 ** 59, None),))

    def test_nothing(self):
        self.assertEqual(next_prints(GOOD, ()), ())
        self.assertEqual(next_prints(RECORD, (9, 10, 11)), ())
        self.assertEqual(next_prints(("time", CLOSED), (9, 10, 11)), ())

    def test_trying_all(self):
        for record in made_records(67, 300, fair=0.98):
            for size in (1, 2):
                names = [None] + orders_in(record[1])
                expected = [(x, size, n) for x in (9, 10, 11) for n in names
                            if is_answer(record, prints((x, size, n)))]
                self.assertEqual(next_prints(record, (9, 10, 11), size=size), tuple(expected))

    def must_be_unusable(self, word, *args, **more):
        for record in (GOOD, RECORD):
            with self.assertRaises(NotUsable) as caught:
                next_prints(record, *args, **more)
            self.assertEqual((caught.exception.word, caught.exception.at), (word, -1))

    def test_unusable(self):
        for thing in ANY_VALUES + ((10, 10), (11, 10), [10], (0,), (True,), (10, None), ("10",)):
            if thing not in ((), (1,)):
                self.must_be_unusable("prices", thing)
                self.must_be_unusable("prices", thing, size=None)
            if type(thing) is not int or thing < 1:
                self.must_be_unusable("size", (10,), size=thing)

    def test_by_name(self):
        self.assertEqual(next_prints(size=1, prices=(10,), record=GOOD), ((10, 1, 0),))
        with self.assertRaises(TypeError):
            next_prints(GOOD, (10,), 1)


class Examples(unittest.TestCase):
    def test_the_documents_examples(self):
        self.assertEqual([can_follow(GOOD, ("prints", ((10, 1, 0),))), can_follow(GOOD, ("prints", ((10, 1, 1),))),
                          can_follow(GOOD, None)], [True, False, False])
        self.assertEqual(list(answers_to(GOOD, "cy", "sell", 10, 3, (10,))),
                         [((10, 2, 0), (10, 1, None)), ((10, 2, 0), (10, 1, 1))])
        self.assertEqual(next_prints(GOOD, (9, 10, 11)), ((10, 1, 0), (11, 1, None)))

    def test_can_follow_by_name(self):
        self.assertIs(can_follow(row=prints(), record=GOOD), True)

    def test_thirty_rows(self):
        for rule in RULES:
            self.assertTrue(can_follow(thirty_rows(rule), prints((12, 1, 17))))
            self.assertEqual(next_prints(thirty_rows(rule), (11, 12)),
                             ((12, 1, 17),) if rule == "time" else ((12, 1, None), (12, 1, 17)))

    def test_what_all_can_be_answered_each_group_can(self):
        for record in made_records(68, 120, fair=1.0):
            for fill in next_prints(record, (9, 10, 11)):
                longer = (record[0], record[1] + (prints(fill),))
                for group in groups_in(record[1]):
                    view = seen_by(longer, group)
                    self.assertTrue(can_follow((view[0], view[1][:-1]), view[1][-1]))

    def test_arguments_stay_as_they_are(self):
        thing = ["prints", [(10, 1, 0)]]
        before = copy.deepcopy(thing)
        self.assertFalse(can_follow(GOOD, thing))
        with self.assertRaises(NotUsable):
            next_prints(GOOD, thing)
        self.assertEqual(thing, before)
        self.assertEqual(found_bars(GOOD), ())


if __name__ == "__main__":
    unittest.main()
