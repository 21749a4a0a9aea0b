import copy
import unittest

from fairshown.bars import bars_at, bars_of, first_bar, is_bar
from fairshown.errors import NotUsable
from fairshown.recordchecker import lets_record

from helper import ANY_VALUES, RECORD, ROWS, RULES, found_bars, groups_in, made_records, order, prints, seen_by
from helper import thirty_rows


class Words(unittest.TestCase):
    def check(self, rows, bars, rules=RULES):
        """By each of these rules just these bars are there."""
        for rule in rules:
            self.assertEqual(lets_record((rule, tuple(rows))), len(rows))
            self.assertEqual(bars_of((rule, tuple(rows))), tuple(bars), rule)

    def none(self, rows, rules=RULES):
        self.check(rows, (), rules)

    def test_through_of_prints(self):
        rows = [order("ann", "buy", 10, 3), order("bob", "sell", 12, 3)]
        self.check(rows + [prints((9, 1, None))], [("through", 2, 0, 0, None)])
        self.check(rows + [prints((13, 1, None))], [("through", 2, 0, 1, None)])
        self.none(rows + [prints((10, 1, None), (11, 1, None), (12, 1, None))])
        self.check(rows + [prints((10, 3, 0), (9, 1, None), (13, 1, None))], [("through", 2, 2, 1, None)])
        self.none(rows + [prints((10, 3, 0), (9, 1, None), (1, 1, None))])

    def test_through_by_a_fill_of_the_record(self):
        rows = [order("ann", "buy", 9, 3), order("bob", "buy", 10, 3)]
        self.check(rows + [prints((9, 1, 0))], [("through", 2, 0, 1, None)])
        self.check(rows + [order("cy", "sell", 8, 4, (9, 3, 0), (10, 1, 1))],
                   [("through", 2, 0, 1, None), ("worse", 2, 1, 2, 0)])
        self.none(rows + [order("cy", "sell", 9, 4, (10, 3, 1), (9, 1, 0))])

    def test_through_by_an_order_of_the_same_side(self):
        self.check([order("ann", "buy", 10, 3), order("bob", "buy", 10, 1, (9, 1, None))],
                   [("through", 1, 0, 0, None)])
        self.check([order("ann", "sell", 10, 3), order("bob", "sell", 9, 1, (11, 1, None))],
                   [("through", 1, 0, 0, None)])

    def test_side(self):
        self.check([order("ann", "buy", 10, 3), order("bob", "buy", 10, 1, (10, 1, None))], [("side", 1, 0, 0, None)])
        self.check([order("ann", "sell", 10, 3), order("bob", "sell", 9, 1, (10, 1, None))],
                   [("side", 1, 0, 0, None)])
        self.none([order("ann", "buy", 10, 3), order("bob", "buy", 11, 1, (11, 1, None))])
        self.none([order("ann", "buy", 10, 3), ("cancel", 0), order("bob", "buy", 10, 1, (10, 1, None))])

    def test_side_comes_before_ahead(self):
        rows = [order("ann", "buy", 10, 1), order("bob", "sell", 10, 1), order("cy", "buy", 10, 1, (10, 1, 1))]
        self.check(rows, [("crossed", 1, 0, 0, 1), ("side", 2, 0, 0, None)])

    def test_ahead(self):
        rows = [order("ann", "buy", 10, 2), order("bob", "buy", 10, 2)]
        self.check(rows + [prints((10, 1, 1))], [("ahead", 2, 0, 0, 1)], ["time"])
        self.check(rows + [prints((10, 1, 0))], [("ahead", 2, 0, 1, 0)], ["late"])
        self.none(rows + [prints((10, 1, 0))], ["time", "price"])
        self.none(rows + [prints((10, 1, 1))], ["late", "price"])
        self.none(rows + [prints((10, 2, 0), (10, 1, 1))], ["time", "price"])
        self.none(rows + [order("cy", "sell", 10, 3, (10, 2, 1), (10, 1, 0))], ["late", "price"])
        self.check(rows + [order("cy", "sell", 10, 2, (10, 2, 1))], [("ahead", 2, 0, 0, 1)], ["time"])
        self.check(rows + [order("cy", "sell", 10, 2, (10, 2, 0))], [("ahead", 2, 0, 1, 0)], ["late"])

    def test_ahead_needs_one_side_one_price_and_an_open_order(self):
        self.none([order("ann", "buy", 10, 2), order("bob", "buy", 11, 2), prints((11, 2, 1), (10, 1, 0))])
        self.none([order("ann", "buy", 10, 2), order("bob", "buy", 10, 2), ("cancel", 0), prints((10, 1, 1))])
        self.check([order("ann", "buy", 10, 2), order("bob", "sell", 10, 2), prints((10, 2, 1))],
                   [("crossed", 1, 0, 0, 1)])

    def test_front_since_prints(self):
        self.check([order("ann", "buy", 10, 2), prints((10, 1, 0)), prints((10, 1, None))], [("front", 2, 0, 0, 1)],
                   ["time"])
        self.check([order("ann", "buy", 10, 2), prints((10, 1, 0), (10, 1, None))], [("front", 1, 1, 0, 1)], ["time"])
        self.none([order("ann", "buy", 10, 2), prints((10, 1, 0), (10, 1, None))], ["late", "price"])
        self.none([order("ann", "buy", 10, 2), prints((10, 1, None), (10, 1, 0))])
        self.none([order("ann", "buy", 10, 2), prints((10, 2, 0), (10, 1, None))])
        self.none([order("ann", "buy", 10, 2), prints((10, 1, 0)), ("cancel", 0), prints((10, 1, None))])

    def test_front_since_its_own_row(self):
        rows = [order("ann", "buy", 10, 2, (9, 1, None))]
        self.check(rows + [prints((10, 1, None))], [("front", 1, 0, 0, 0)], ["time"])
        self.check(rows + [order("bob", "sell", 10, 1, (10, 1, None))], [("front", 1, 0, 0, 0)], ["time"])
        self.none(rows + [prints((11, 1, None))])
        self.none(rows + [prints((10, 1, None))], ["late", "price"])
        self.none([order("ann", "buy", 10, 2, (9, 1, None), (10, 1, None)), prints((10, 1, None))])

    def test_front_since_an_order(self):
        rows = [order("ann", "buy", 10, 2), order("bob", "sell", 10, 1, (10, 1, 0))]
        self.check(rows + [order("cy", "sell", 10, 1, (10, 1, None))], [("front", 2, 0, 0, 1)], ["time"])

    def test_front_since_a_call(self):
        rows = [("closed",), order("ann", "buy", 10, 2), ("call", 10, ((1, 1),))]
        self.check(rows + [prints((10, 1, None))], [("front", 3, 0, 1, 2)], ["time"])
        self.none(rows + [prints((10, 1, None))], ["late", "price"])
        self.none(rows[:2] + [("call", 10, ()), prints((10, 1, None))])
        self.none(rows[:2] + [("call", 10, ((1, 2),)), prints((10, 1, None))])

    def test_front_since_the_first_of_several_rows(self):
        rows = [order("ann", "buy", 10, 9, (9, 1, None)), prints((10, 1, 0)), prints((10, 1, 0)), prints((10, 1, None))]
        self.check(rows, [("front", 3, 0, 0, 0)], ["time"])
        rows[0] = order("ann", "buy", 10, 9)
        self.check(rows, [("front", 3, 0, 0, 1)], ["time"])

    def test_front_of_two_orders(self):
        rows = [order("ann", "sell", 10, 2), order("bob", "sell", 10, 2), prints((10, 1, 1)), prints((10, 1, 0)),
                prints((10, 1, None))]
        self.check(rows, [("ahead", 2, 0, 0, 1), ("front", 4, 0, 0, 3), ("front", 4, 0, 1, 2)], ["time"])

    def test_first(self):
        rows = [order("ann", "buy", 10, 2, (9, 1, None))]
        self.check(rows + [order("bob", "sell", 10, 2, (10, 1, 0), (10, 1, None))], [("first", 1, 1, 0, None)], ["late"])
        self.none(rows + [order("bob", "sell", 10, 2, (10, 1, 0), (10, 1, None))], ["time", "price"])

    def test_first_used_up_by_several_fills(self):
        rows = [order("ann", "buy", 10, 3, (9, 1, None))]
        taking = order("bob", "sell", 10, 4, (10, 1, 0), (10, 1, None), (10, 1, 0), (10, 1, None))
        self.check(rows + [taking], [("first", 1, 3, 0, None), ("short", 1, 0, 1, 0)], ["late"])

    def test_no_first(self):
        rows = [order("ann", "buy", 10, 2, (9, 1, None))]
        self.none([order("ann", "buy", 10, 1), order("bob", "sell", 10, 2, (10, 1, 0), (10, 1, None))])
        self.none(rows + [prints((10, 1, 0), (10, 1, None))])
        self.none(rows + [prints((10, 1, 0)), order("bob", "sell", 10, 1, (10, 1, None))])
        self.none(rows + [order("bob", "sell", 10, 2, (10, 1, None), (10, 1, 0))], ["late", "price"])
        self.none(rows + [order("bob", "sell", 9, 2, (10, 1, 0), (9, 1, None))])
        self.none(rows + [order("bob", "sell", 10, 1, (10, 1, 0)), order("cy", "sell", 10, 1, (10, 1, None))])
        older = [order("cy", "buy", 10, 1)]
        self.none(older + [order("bob", "sell", 10, 3, (10, 1, None), (10, 1, 0), (10, 1, None))])
        took = older + [order("ann", "buy", 10, 2, (9, 1, None))]
        self.check(took + [order("bob", "sell", 10, 2, (10, 1, 1), (10, 1, 0))], [("through", 1, 0, 0, None)],
                   ["late", "price"])

    def test_short(self):
        self.check([order("ann", "buy", 10, 3), order("bob", "sell", 10, 3, (10, 1, 0), (10, 1, 0), (10, 1, 0))],
                   [("short", 1, 0, 1, 0), ("short", 1, 1, 1, 0)])
        self.none([order("ann", "buy", 10, 3), order("bob", "sell", 10, 2, (10, 2, 0))])
        self.none([order("ann", "buy", 10, 3), order("bob", "sell", 11, 2)])
        self.none([order("ann", "buy", 10, 3), order("bob", "sell", 10, 4, (10, 3, 0))])
        self.none([order("ann", "buy", 10, 3), prints((10, 1, 0), (10, 1, 0))])
        self.check([order("ann", "buy", 10, 3), order("bob", "sell", 10, 2, (10, 1, 0))],
                   [("crossed", 1, 0, 0, 1), ("short", 1, 0, 1, 0)])

    def test_worse(self):
        self.check([order("ann", "buy", 10, 3, (9, 1, None), (8, 1, None), (7, 1, None))],
                   [("worse", 0, 1, 0, 0), ("worse", 0, 2, 0, 0), ("worse", 0, 2, 0, 1)])
        self.check([order("ann", "sell", 7, 3, (7, 1, None), (8, 1, None), (8, 1, None))],
                   [("worse", 0, 1, 0, 0), ("worse", 0, 2, 0, 0)])
        self.none([order("ann", "buy", 10, 3, (8, 1, None), (8, 1, None), (10, 1, None))])
        self.none([order("ann", "sell", 7, 3, (9, 1, None), (9, 1, None), (7, 1, None))])
        self.none([prints((9, 1, None), (8, 1, None), (9, 1, None))])

    def test_crossed(self):
        rows = [order("ann", "buy", 10, 3), order("bob", "sell", 10, 3)]
        self.check(rows, [("crossed", 1, 0, 0, 1)])
        self.check(rows + [prints(), ("cancel", 0), prints()], [("crossed", 1, 0, 0, 1), ("crossed", 2, 0, 0, 1)])
        self.check(rows[::-1] + [prints((10, 3, 0))], [("crossed", 1, 0, 1, 0)])
        self.none([order("ann", "buy", 9, 3), order("bob", "sell", 10, 3)])
        self.none([order("ann", "buy", 10, 3), order("ann", "buy", 9, 3)])
        self.none([order("ann", "buy", 10, 3), order("bob", "sell", 10, 3, (10, 3, 0))])

    def test_crossed_with_several(self):
        rows = [order("ann", "buy", 10, 3), order("bob", "buy", 11, 3), order("cy", "sell", 10, 3)]
        self.check(rows, [("crossed", 2, 0, 0, 2), ("crossed", 2, 0, 1, 2)])

    def test_crossed_in_the_closed_part(self):
        rows = [("closed",), order("ann", "buy", 10, 3), order("bob", "sell", 9, 3), prints(), order("cy", "sell", 9, 1)]
        self.none(rows)
        self.none(rows + [("cancel", 4)])
        self.check(rows + [("call", None, ())], [("crossed", 5, 0, 1, 2), ("crossed", 5, 0, 1, 4)])
        self.check(rows + [("cancel", 4), ("call", None, ()), ("cancel", 2)], [("crossed", 6, 0, 1, 2)])
        self.none(rows + [("call", 9, ((1, 3), (2, 3)))], ["time", "price"])

    def test_through_of_a_call(self):
        rows = [("closed",), order("ann", "buy", 10, 3), order("bob", "sell", 8, 3)]
        crossed = ("crossed", 3, 0, 1, 2)
        self.check(rows + [("call", 9, ((1, 1), (2, 2)))],
                   [crossed, ("through", 3, 0, 1, None), ("through", 3, 0, 2, None)])
        self.check(rows + [("call", 9, ((1, 3), (2, 2)))], [("through", 3, 0, 2, None)])
        self.check(rows + [("call", 10, ((1, 3),))], [("through", 3, 0, 2, None)])
        self.none(rows + [("call", 10, ((1, 1), (2, 3)))])
        self.none(rows + [("call", 9, ((1, 3), (2, 3)))])
        self.none([("closed",), order("ann", "buy", 10, 3), ("call", 11, ())])
        self.check([("closed",), order("ann", "buy", 10, 3), ("call", 9, ())], [("through", 2, 0, 1, None)])

    def test_ahead_of_a_call(self):
        rows = [("closed",), order("ann", "sell", 9, 2), order("bob", "sell", 9, 2)]
        self.check(rows + [("call", 9, ((2, 1),))], [("ahead", 3, 0, 1, 2)], ["time"])
        self.check(rows + [("call", 9, ((1, 1),))], [("ahead", 3, 0, 2, 1)], ["late"])
        self.check(rows + [("call", 9, ((1, 1), (2, 1)))], [("ahead", 3, 0, 1, 2)], ["time"])
        self.check(rows + [("call", 9, ((1, 1), (2, 1)))], [("ahead", 3, 0, 2, 1)], ["late"])
        self.none(rows + [("call", 9, ((1, 1), (2, 1)))], ["price"])
        self.none(rows + [("call", 9, ((1, 2), (2, 1)))], ["time", "price"])
        self.none(rows + [("call", 9, ((1, 1), (2, 2)))], ["late", "price"])
        self.none(rows + [("call", 9, ())])
        self.none([("closed",), order("ann", "sell", 9, 2), order("bob", "sell", 8, 2), ("call", 9, ((2, 2),))])
        self.none([("closed",), order("ann", "sell", 9, 2), order("bob", "buy", 9, 3), ("call", 9, ((1, 2), (2, 1)))])

    def test_call_without_a_price(self):
        self.none([("closed",), order("ann", "buy", 10, 3), order("bob", "sell", 11, 3), ("call", None, ())])


class Calls(unittest.TestCase):
    def test_bars_at(self):
        for rule in RULES:
            for t in range(len(ROWS)):
                bars = tuple(bar for bar in bars_of((rule, ROWS)) if bar[1] == t)
                self.assertEqual(bars_at((rule, ROWS), t), bars)

    def test_bars_at_no_row(self):
        for t in ANY_VALUES + (4, -4):
            if type(t) is int and 0 <= t < 4:
                continue
            with self.assertRaises(NotUsable) as caught:
                bars_at(RECORD, t)
            self.assertEqual(caught.exception.word, "row")
            self.assertIs(caught.exception.at, t)

    def test_bars_at_of_a_record_without_rows(self):
        with self.assertRaises(NotUsable):
            bars_at(("late", ()), 0)

    def test_first_bar(self):
        rows = (order("ann", "buy", 10, 3), prints((9, 1, None), (8, 1, None)), prints((7, 1, None)))
        self.assertEqual(first_bar(("time", rows)), ("through", 1, 0, 0, None))
        crossed = (order("cy", "sell", 9, 1), order("ann", "buy", 9, 3, (8, 1, None), (7, 1, None)), prints())
        self.assertEqual(first_bar(("price", crossed)), ("crossed", 1, 0, 1, 0))
        self.assertIsNone(first_bar(("price", ())))

    def test_is_bar(self):
        bar = ("front", 3, 0, 0, 2)
        self.assertIs(is_bar(RECORD, bar), True)
        for thing in ANY_VALUES + (list(bar), bar + (0,), bar[:4], ("front", 3, 0, 0, None), ("ahead", 3, 0, 0, 2),
                                   ("front", 3, 0, False, 2), ("front", 3, False, 0, 2), ("front", 2, 0, 0, 2),
                                   ("front", 3, 0, 1, 2), ("front", 3, 0, 0, 1), (bar,), ("front", 3, None, 0, 2),
                                   (None, 3, 0, 0, 2), (["front"], 3, 0, 0, 2), ("front", 3, (), 0, 2),
                                   ("front", 3, 0, 0, (2,)), ("front", -1, 0, 0, 2)):
            self.assertIs(is_bar(RECORD, thing), False, thing)

    def test_true_is_not_one(self):
        rows = (order("ann", "buy", 10, 3), prints((9, 1, None)))
        self.assertTrue(is_bar(("time", rows), ("through", 1, 0, 0, None)))
        for thing in (("through", True, 0, 0, None), ("through", 1, False, 0, None), ("through", 1, 0, False, None)):
            self.assertFalse(is_bar(("time", rows), thing))
        crossed = ("time", (order("ann", "buy", 10, 3), order("bob", "sell", 10, 3)))
        self.assertTrue(is_bar(crossed, ("crossed", 1, 0, 0, 1)))
        self.assertFalse(is_bar(crossed, ("crossed", 1, 0, 0, True)))

    def test_the_documents_examples(self):
        self.assertEqual([bars_of(RECORD), first_bar(("late", ROWS)), first_bar(("price", ROWS))],
                         [(("front", 3, 0, 0, 2),), ("ahead", 2, 1, 1, 0), None])
        bars = bars_of(("price", (("order", "ann", "sell", 9, 1, ()), ("order", "bob", "buy", 9, 2, ((8, 1, None),)))))
        self.assertEqual(bars, (("crossed", 1, 0, 1, 0),))

    def test_by_name(self):
        self.assertEqual(bars_of(record=RECORD), bars_at(t=3, record=RECORD))
        self.assertEqual(first_bar(record=RECORD), bars_of(RECORD)[0])
        self.assertTrue(is_bar(thing=("front", 3, 0, 0, 2), record=RECORD))

    def test_kinds_of_results(self):
        self.assertIs(type(bars_of(RECORD)), tuple)
        self.assertIs(type(bars_at(RECORD, 0)), tuple)
        self.assertIs(type(first_bar(RECORD)), tuple)

    def test_arguments_stay_as_they_are(self):
        thing = ["front", [3, 0], 0, 2]
        before = copy.deepcopy(thing)
        is_bar(RECORD, thing)
        with self.assertRaises(NotUsable):
            bars_at(RECORD, thing)
        self.assertEqual(thing, before)


class Made(unittest.TestCase):
    def test_the_bars_are_those_that_trying_all_finds(self):
        words = set()
        for fair, prices in ((0.0, (9, 10, 11)), (0.6, (9, 10, 11)), (0.9, (10, 11)), (0.3, (10,))):
            for record in made_records(5, 2000, fair=fair, prices=prices):
                bars = found_bars(record)
                words.update(bar[0] for bar in bars)
                self.assertEqual(bars_of(record), bars)
                self.assertEqual(first_bar(record), min(bars, key=lambda bar: (bar[1], bar), default=None))
        self.assertEqual(words, {"through", "side", "ahead", "front", "first", "short", "worse", "crossed"})

    def test_each_bar_is_one_and_no_neighbour_is(self):
        for record in made_records(6, 120, fair=0.5):
            bars = bars_of(record)
            for bar in bars:
                self.assertTrue(is_bar(record, bar))
                for other in (bar[:4] + (9,), bar[:2] + (bar[2] + 1,) + bar[3:], bar[:4] + (True,)):
                    self.assertEqual(is_bar(record, other), other in bars and other[4] is not True)

    def test_rows_behind_change_no_bar(self):
        for record in made_records(7, 200, fair=0.5):
            rule, rows = record
            for t in range(len(rows)):
                self.assertEqual(bars_at(record, t), bars_at((rule, rows[:t + 1]), t))

    def test_words_by_rule(self):
        for rule, rows in made_records(8, 300, fair=0.5):
            words = {name: {bar[0] for bar in bars_of((name, rows))} for name in RULES}
            common = {name: {bar for bar in bars_of((name, rows)) if bar[0] not in ("front", "first", "ahead")}
                      for name in RULES}
            self.assertLessEqual(words["time"] & {"front", "first", "ahead"}, {"front", "ahead"})
            self.assertLessEqual(words["late"] & {"front", "first", "ahead"}, {"first", "ahead"})
            self.assertLessEqual(words["price"] & {"front", "first", "ahead"}, set())
            self.assertEqual(common["time"], common["late"])
            self.assertEqual(common["time"], common["price"])

    def test_more_members_see_no_less(self):
        for record in made_records(9, 250, fair=0.7):
            groups = groups_in(record[1])
            barred = {group: bool(bars_of(seen_by(record, group))) for group in groups}
            for group in groups:
                for part in groups:
                    if set(part) <= set(group) and barred[part]:
                        self.assertTrue(barred[group])
            self.assertEqual(bool(bars_of(record)), any(barred[group] for group in groups if len(group) <= 2))

    def test_thirty_rows(self):
        for rule in RULES:
            rows = thirty_rows(rule)[1]
            self.assertEqual(bars_of((rule, rows)), ())
            self.assertEqual(bars_at((rule, rows), 29), ())
            late = rows[:29] + (prints((12, 1, None)),)
            self.assertEqual(bars_of((rule, late)), (("front", 29, 0, 17, 17),) if rule == "time" else ())


if __name__ == "__main__":
    unittest.main()
