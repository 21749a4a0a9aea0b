import copy
import unittest

from fairshown.errors import NotUsable, UnknownMember, UnknownOrder
from fairshown.recordchecker import lets_record
from fairshown.records import cut, is_closed_at, members_of, open_at, order_at, orders_of, prints_of, rest_at, seen
from fairshown.records import traded, with_rule

from helper import ANY_VALUES, RECORD, ROWS, RULES, closed_before, groups_in, made_records, open_in, orders_in
from helper import own_fills, rest_of, seen_by, thirty_rows

CALLED = ("late", (
    ("closed",),
    ("order", "cy", "buy", 10, 5, ()),
    ("order", "ann", "sell", 9, 4, ()),
    ("order", "bob", "sell", 10, 2, ()),
    ("cancel", 3),
    ("prints", ()),
    ("call", 10, ((1, 2), (2, 4))),
    ("order", "ann", "sell", 10, 3, ((10, 1, None), (10, 1, 1))),
    ("prints", ((10, 1, 1), (11, 2, None))),
    ("cancel", 1),
))


def records():
    yield RECORD
    yield CALLED
    for rule in RULES:
        yield rule, ()
        yield thirty_rows(rule)
    yield from made_records(21, 90, many=10, fair=0.5)


def places_of(rows):
    for t in range(len(rows) + 1):
        for i in range(max(1, len(own_fills(rows[t])) if t < len(rows) else 1)):
            yield t, i


def no_orders(rows):
    yield from [thing for thing in ANY_VALUES + (len(rows), -len(rows), (0,), [0], "0")
                if type(thing) is not int or thing not in orders_in(rows)]
    yield from [n for n in range(len(rows)) if n not in orders_in(rows)]


def no_places(rows):
    things = ANY_VALUES + (len(rows) + 1, -len(rows), (0, 0), "0")
    for thing in things:
        if type(thing) is not int or not 0 <= thing <= len(rows):
            yield thing, 0
    for t in range(len(rows) + 1):
        many = len(own_fills(rows[t])) if t < len(rows) else 0
        for thing in things + (many, many + 1):
            if type(thing) is not int or thing != 0 and not 0 <= thing < many:
                yield t, thing


class Asking(unittest.TestCase):
    def unknown(self, function, *args):
        with self.assertRaises(UnknownOrder) as caught:
            function(*args)
        return caught.exception.n

    def unusable(self, word, function, *args):
        with self.assertRaises(NotUsable) as caught:
            function(*args)
        self.assertEqual((caught.exception.word, caught.exception.at), (word, -1), args)


class Orders(Asking):
    def test_members_and_orders(self):
        self.assertEqual(members_of(CALLED), ("ann", "bob", "cy"))
        self.assertEqual(orders_of(CALLED), (1, 2, 3, 7))
        self.assertEqual([members_of(("time", ())), orders_of(("time", ()))], [(), ()])
        self.assertEqual([members_of(("time", (("prints", ()),))), orders_of(("time", (("prints", ()),)))], [(), ()])
        for record in records():
            self.assertEqual(orders_of(record), tuple(orders_in(record[1])))
            self.assertEqual(members_of(record), tuple(sorted({record[1][n][1] for n in orders_of(record)})))

    def test_order_at(self):
        self.assertEqual(order_at(CALLED, 7), ("ann", "sell", 10, 3))
        self.assertEqual(order_at(RECORD, 1), ("bob", "buy", 10, 2))
        for record in records():
            for n in orders_in(record[1]):
                self.assertEqual(order_at(record, n), record[1][n][1:5])

    def test_no_order(self):
        for record in (RECORD, CALLED, ("time", ())):
            for n in no_orders(record[1]):
                self.assertIs(self.unknown(order_at, record, n), n)
                self.assertIs(self.unknown(traded, record, n), n)
                self.assertIs(self.unknown(rest_at, record, n, 0), n)

    def test_traded(self):
        self.assertEqual([traded(CALLED, n) for n in (1, 2, 3, 7)], [4, 4, 0, 2])
        for record in records():
            for n in orders_in(record[1]):
                self.assertEqual(traded(record, n), record[1][n][4] - rest_of(record[1], n, len(record[1])))


class Places(Asking):
    def test_rests(self):
        self.assertEqual([rest_at(CALLED, 1, t) for t in range(11)], [5, 5, 5, 5, 5, 5, 5, 3, 2, 1, 1])
        self.assertEqual([rest_at(CALLED, 7, 7, i) for i in (0, 1)], [3, 2])
        self.assertEqual([rest_at(CALLED, 1, 7, i) for i in (0, 1)], [3, 3])
        self.assertEqual([rest_at(CALLED, 1, 8, i) for i in (0, 1)], [2, 1])
        self.assertEqual([rest_at(CALLED, 7, t) for t in (0, 7, 8, 10)], [3, 3, 1, 1])
        self.assertEqual([rest_at(CALLED, 3, t) for t in (0, 4, 5, 10)], [2, 2, 2, 2])

    def test_open_orders(self):
        self.assertEqual([open_at(CALLED, t) for t in range(11)],
                         [(), (), (1,), (1, 2), (1, 2, 3), (1, 2), (1, 2), (1,), (1, 7), (1, 7), (7,)])
        self.assertEqual(open_at(RECORD, 2, 1), (0, 1))
        used = ("time", (ROWS[0], ("prints", ((10, 3, 0), (9, 1, None)))))
        self.assertEqual([open_at(used, 1), open_at(used, 1, 1), open_at(used, 2)], [(0,), (), ()])

    def test_closed(self):
        self.assertEqual([is_closed_at(CALLED, t) for t in range(11)], [False] + [True] * 6 + [False] * 4)
        self.assertEqual([is_closed_at(RECORD, t) for t in range(5)], [False] * 5)
        self.assertIs(is_closed_at(("time", ()), 0), False)

    def test_all_orders_and_places(self):
        for record in records():
            rows = record[1]
            for t, i in places_of(rows):
                self.assertEqual(open_at(record, t, i), tuple(open_in(rows, t, i)))
                for n in orders_in(rows):
                    self.assertEqual(rest_at(record, n, t, i), rest_of(rows, n, t, i), (record, n, t, i))
            for t in range(len(rows) + 1):
                self.assertIs(is_closed_at(record, t), closed_before(rows, t))

    def test_no_place(self):
        for record in (RECORD, CALLED, ("late", ())):
            for t, i in no_places(record[1]):
                self.unusable("place", open_at, record, t, i)
                if i is not True and i == 0 and i is not False:
                    self.unusable("place", is_closed_at, record, t)
                    self.unusable("place", open_at, record, t)
                for n in orders_in(record[1]):
                    self.unusable("place", rest_at, record, n, t, i)

    def test_no_order_comes_before_no_place(self):
        for n in (None, True, -1, 4, 2, "0", [0]):
            self.assertIs(self.unknown(rest_at, RECORD, n, 99), n)
            self.assertIs(self.unknown(rest_at, RECORD, n, None, "1"), n)
            self.assertIs(self.unknown(rest_at, RECORD, n, 3, 1), n)

    def test_prints(self):
        self.assertEqual(prints_of(CALLED), ((7, 0, 10, 1), (7, 1, 10, 1), (8, 0, 10, 1), (8, 1, 11, 2)))
        self.assertEqual(prints_of(("time", ())), ())
        for record in records():
            self.assertEqual(prints_of(record), tuple(
                (t, i, price, size) for t, row in enumerate(record[1])
                for i, (price, size, _) in enumerate(own_fills(row))))


class Seen(Asking):
    def test_each_kind_of_row(self):
        self.assertEqual(seen(CALLED, ("ann",)), ("late", (
            ("closed",), ("prints", ()), CALLED[1][2], ("prints", ()), ("prints", ()), ("prints", ()),
            ("call", 10, ((2, 4),)), ("order", "ann", "sell", 10, 3, ((10, 1, None), (10, 1, None))),
            ("prints", ((10, 1, None), (11, 2, None))), ("prints", ()))))
        self.assertEqual(seen(CALLED, ("cy", "bob")), ("late", (
            ("closed",), CALLED[1][1], ("prints", ()), CALLED[1][3], ("cancel", 3), ("prints", ()),
            ("call", 10, ((1, 2),)), ("prints", ((10, 1, None), (10, 1, 1))), CALLED[1][8], ("cancel", 1))))
        self.assertEqual(seen(RECORD, ()), ("time", (
            ("prints", ()), ("prints", ()), ("prints", ((10, 1, None), (10, 1, None))), ROWS[3])))

    def test_all_groups_in_any_order_and_repeated(self):
        for record in records():
            for group in groups_in(record[1]):
                view = seen_by(record, group)
                self.assertEqual(lets_record(view), len(record[1]))
                self.assertEqual(seen(record, group), view)
                self.assertEqual(seen(record, group[::-1] + group + group[:1]), view)

    def test_no_member(self):
        for record in (RECORD, CALLED, ("price", ())):
            for thing in ANY_VALUES + ("dan", ("ann",), ["ann"], "an"):
                if isinstance(thing, str) and thing in members_of(record):
                    continue
                for members in ((thing,), members_of(record) + (thing, "zoe"), (thing,) + members_of(record)):
                    with self.assertRaises(UnknownMember) as caught:
                        seen(record, members)
                    self.assertIs(caught.exception.member, thing)

    def test_the_first_that_is_no_member(self):
        with self.assertRaises(UnknownMember) as caught:
            seen(RECORD, ("bob", "zoe", None, "ann"))
        self.assertEqual(caught.exception.member, "zoe")

    def test_all_members_see_the_record(self):
        for record in records():
            self.assertEqual(seen(record, members_of(record)), record)

    def test_seen_twice(self):
        for record in records():
            for group in groups_in(record[1])[:8]:
                for part in groups_in(record[1])[:8]:
                    view = seen(record, group)
                    if set(part) <= set(members_of(view)):
                        self.assertEqual(seen(view, part), seen(record, part))

    def test_beginnings(self):
        for record in records():
            for t in range(len(record[1]) + 1):
                self.assertEqual(lets_record(cut(record, t)), t)
                for group in groups_in(record[1][:t]):
                    self.assertEqual(seen(cut(record, t), group), cut(seen(record, group), t))


class Changed(Asking):
    def test_with_rule(self):
        for rule in RULES:
            self.assertEqual(with_rule(RECORD, rule), (rule, ROWS))
        for thing in ANY_VALUES:
            if thing not in ("time", "late", "price"):
                self.unusable("rule", with_rule, RECORD, thing)

    def test_cut(self):
        for t in range(5):
            self.assertEqual(cut(RECORD, t), ("time", ROWS[:t]))
        for thing in ANY_VALUES + (5, -4):
            if type(thing) is not int or not 0 <= thing <= 4:
                self.unusable("row", cut, RECORD, thing)
        self.assertEqual(cut(("late", ()), 0), ("late", ()))
        self.unusable("row", cut, ("late", ()), 1)
        self.unusable("row", cut, ("late", ()), False)


class Examples(Asking):
    def test_the_documents_examples(self):
        self.assertEqual([rest_at(RECORD, 0, 2, 1), rest_at(RECORD, 0, 3), open_at(RECORD, 1), prints_of(RECORD)[1],
                          traded(RECORD, 1)], [3, 2, (0,), (2, 1, 10, 1), 0])
        self.unusable("place", rest_at, RECORD, 0, 3, 1)
        self.assertEqual(seen(cut(RECORD, 3), ("bob",))[1], (
            ("prints", ()), ("order", "bob", "buy", 10, 2, ()), ("prints", ((10, 1, None), (10, 1, None)))))

    def test_by_name(self):
        self.assertEqual(members_of(record=RECORD), ("ann", "bob"))
        self.assertEqual(orders_of(record=RECORD), (0, 1))
        self.assertEqual(order_at(n=0, record=RECORD), ("ann", "buy", 10, 3))
        self.assertEqual(rest_at(i=1, t=2, n=0, record=RECORD), 3)
        self.assertEqual(open_at(t=2, record=RECORD, i=1), (0, 1))
        self.assertIs(is_closed_at(t=2, record=RECORD), False)
        self.assertEqual(len(prints_of(record=RECORD)), 3)
        self.assertEqual(traded(n=0, record=RECORD), 1)
        self.assertEqual(seen(members=("ann", "bob"), record=RECORD), RECORD)
        self.assertEqual(with_rule(rule="late", record=RECORD), ("late", ROWS))
        self.assertEqual(cut(t=1, record=RECORD), ("time", ROWS[:1]))

    def test_kinds_of_results(self):
        results = [members_of(RECORD), orders_of(RECORD), order_at(RECORD, 0), open_at(RECORD, 2), prints_of(RECORD),
                   seen(RECORD, ()), seen(RECORD, ())[1], with_rule(RECORD, "late"), cut(RECORD, 1), cut(RECORD, 1)[1]]
        for result in results:
            self.assertIs(type(result), tuple)
        self.assertIs(type(rest_at(RECORD, 0, 0)), int)
        self.assertIs(type(traded(RECORD, 0)), int)

    def test_arguments_stay_as_they_are(self):
        thing = ["ann", ["bob"]]
        before = copy.deepcopy(thing)
        for function in (order_at, traded, open_at, is_closed_at, with_rule, cut):
            with self.assertRaises((NotUsable, UnknownOrder)):
                function(RECORD, thing)
        with self.assertRaises(UnknownMember):
            seen(RECORD, ("ann", thing))
        self.assertEqual(thing, before)


if __name__ == "__main__":
    unittest.main()
