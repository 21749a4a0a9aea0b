import copy
import random
import unittest

from fairshown.daychecker import lets_day
from fairshown.errors import InvalidPaper
from fairshown.explaining import day_for

from helper import ANY_VALUES, RECORD, RULES, changed, day_fault, found_bars, made_days, made_records, order, other_part
from helper import part_at, places


def told(thing):
    """What lets_day returns, or the fields of its error."""
    try:
        return lets_day(thing)
    except InvalidPaper as error:
        return error.word, error.at


class LetsDay(unittest.TestCase):
    def fault(self, thing, word, at):
        before = copy.deepcopy(thing)
        with self.assertRaises(InvalidPaper) as caught:
            lets_day(thing)
        self.assertEqual(vars(caught.exception), {"word": word, "at": at})
        self.assertIs(type(caught.exception.at), type(at))
        self.assertEqual(day_fault(thing), (word, at))
        self.assertEqual(thing, before)

    def good(self, rule, *steps):
        self.assertEqual(lets_day((rule, steps)), len(steps))
        self.assertEqual(day_fault((rule, steps)), len(steps))

    def test_made_days(self):
        for day in made_days(51, 400):
            self.assertEqual(lets_day(day), len(day[1]))
            for s in range(len(day[1])):
                self.assertEqual(lets_day((day[0], day[1][:s])), s)
            if day[0] != "price":
                self.assertEqual(lets_day(("price", day[1])), len(day[1]))

    def test_days_that_explain(self):
        for record in made_records(52, 400, fair=1.0):
            self.assertFalse(found_bars(record))
            self.assertEqual(lets_day(day_for(record)), len(record[1]))

    def test_days_changed_in_one_place(self):
        rng = random.Random(53)
        words = {}
        for day in made_days(54, 5000, many=6):
            path = rng.choice(list(places(day))[1:])
            other = changed(day, path, other_part(rng, part_at(day, path)))
            right = day_fault(other)
            self.assertEqual(told(other), right)
            word = "good" if isinstance(right, int) else right[0]
            words[word] = words.get(word, 0) + 1
        for word in ("good", "shape", "rule", "place", "order", "cancel", "fills", "price"):
            self.assertGreater(words[word], 3, word)

    def test_days_of_other_rules(self):
        for day in made_days(55, 300):
            for rule in RULES:
                self.assertEqual(told((rule, day[1])), day_fault((rule, day[1])))

    def test_any_values(self):
        for thing in ANY_VALUES:
            self.assertEqual(told(thing), ("rule" if thing == ("prints", ()) else "shape", -1))
            for good in (("time", ()), ("price", ((),)), ("late", ((("closed",),),)),
                         ("time", ((order("ann", "buy", 9, 1),), (order(None, "sell", 9, 1, (9, 1, (0, 0))),)))):
                for path in places(good):
                    other = changed(good, path, thing)
                    self.assertEqual(told(other), day_fault(other), other)

    def test_shape(self):
        for thing in (("time",), ("time", (), ()), ["time", ()], ("time", []), (1, ()), (None, ()), ("time", ([],)),
                      ("time", (("closed",),)), ("time", ((["closed"],),)), ("time", ((("closed", 1),),)),
                      ("time", ((("prints", ()),),)), ("time", ((("cancel", 0),),)), ("time", ((("cancel", (0,)),),)),
                      ("time", ((("cancel", (0, -1)),),)), ("time", ((("cancel", (0, True)),),)),
                      ("time", ((("cancel", [0, 0]),),)), ("time", ((("cancel", (0, 0), 0),),)),
                      ("time", ((("cancel", (0, 0, 0)),),)), ("time", (((),),)), (("time",), ())):
            self.fault(thing, "shape", -1)

    def test_shape_of_an_order(self):
        good = order("ann", "buy", 9, 1, (9, 1, (0, 0)))
        wrong = [(1, 0), (1, ()), (2, None), (2, 1), (3, "9"), (3, True), (3, None), (4, True), (4, ()), (5, None),
                 (5, []), (5, ((9, 1),)), (5, ((9, 1, 0),)), (5, ((9, 1, None),)), (5, ((9, 1, (0, 0), 1),)),
                 (5, ([9, 1, (0, 0)],)), (5, ((True, 1, (0, 0)),)), (5, ((9, "1", (0, 0)),)), (5, ((9, 1, (0, -1)),)),
                 (5, ((9, 1, (0, 0)), None)), (0, "orders"), (0, None)]
        for k, part in wrong:
            self.fault(("time", ((good[:k] + (part,) + good[k + 1:],),)), "shape", -1)
        self.fault(("time", ((good + (1,),),)), "shape", -1)
        self.fault(("time", ((good[:5],),)), "shape", -1)
        # Any integers and strings are of the shape, whatever else is wrong with them.
        for k, part in ((1, "no name"), (2, "up"), (3, 0), (3, -5), (4, 0), (4, -1)):
            self.fault(("time", ((good[:k] + (part,) + good[k + 1:],),)), "order", (0, 0))
        self.fault(("time", ((good[:5] + (((-9, -1, (7, 7)),),),),)), "fills", (0, 0, 0))

    def test_shape_of_a_call(self):
        for act in (("call", None), ("call", True, ()), ("call", "9", ()), ("call", 9, None), ("call", 9, []),
                    ("call", 9, (((0, 0), 1, 1),)), ("call", 9, (((0, 0), True),)), ("call", 9, ((0, 1),)),
                    ("call", 9, ([(0, 0), 1],)), ("call", 9, (((0, 0), None),)), ("call", 9, ((None, 1),)),
                    ("call", None, (), ())):
            self.fault(("time", ((("closed",),), (act,))), "shape", -1)
        for act, word in ((("call", 0, ()), "price"), (("call", -1, (((9, 9), -1),)), "price"),
                          (("call", None, (((9, 9), -1),)), "fills")):
            self.fault(("time", ((("closed",),), (act,))), word, (1, 0))

    def test_the_whole_shape_comes_first(self):
        self.fault(("slow", (("closed",),)), "shape", -1)
        self.fault(("slow", ((order("Ann", "buy", 9, 1),), (None,))), "shape", -1)
        self.fault(("slow", ((order("Ann", "buy", 9, 1),),)), "rule", -1)
        for rule in ("", "Time", "time\n", "late ", "prices"):
            self.fault((rule, ()), "rule", -1)

    def test_place_of_the_closed_part(self):
        for rule in RULES:
            self.good(rule, (("closed",),))
            self.fault((rule, ((), (("closed",),))), "place", (1, 0))
            self.fault((rule, ((("closed",),), (("closed",),))), "place", (1, 0))
            self.fault((rule, ((("closed",), order(None, "buy", 9, 1)),)), "place", (0, 0))
            self.fault((rule, ((("closed",), ("closed",)),)), "place", (0, 0))
            self.fault((rule, ((order(None, "buy", 9, 1), ("closed",)),)), "place", (0, 1))
            self.fault((rule, ((("call", None, ()),),)), "place", (0, 0))
            self.good(rule, (("closed",),), (("call", None, ()),))
            self.fault((rule, ((("closed",),), (("call", None, ()),), (("call", None, ()),))), "place", (2, 0))
            self.fault((rule, ((("closed",), ("call", None, ())),)), "place", (0, 0))
            self.fault((rule, ((("closed",),), (("call", None, ()), order(None, "buy", 9, 1)))), "place", (1, 0))
            self.good(rule, (("closed",),), (order(None, "buy", 9, 1), ("call", None, ())))

    def test_members_acts_come_last(self):
        ann, stranger = order("ann", "buy", 9, 1), order(None, "buy", 8, 1)
        for rule in RULES:
            self.good(rule, (stranger, stranger, ann))
            self.fault((rule, ((ann, stranger),)), "place", (0, 0))
            self.fault((rule, ((stranger, ann, ann),)), "place", (0, 1))
            self.fault((rule, ((order("No Name", "up", 0, 0), stranger),)), "place", (0, 0))
            self.good(rule, (ann,), (stranger, ("cancel", (0, 0))))
            self.fault((rule, ((ann,), (("cancel", (0, 0)), stranger))), "place", (1, 0))
            # Also if that order does not rest any more.
            self.fault((rule, ((ann,), (("cancel", (0, 0)),), (("cancel", (0, 0)), stranger))), "place", (2, 0))
            self.fault((rule, ((ann,), (("cancel", (0, 0)),), (("cancel", (0, 0)),))), "cancel", (2, 0))
            # A cancel of a stranger's order, or of none, is a stranger's.
            self.good(rule, (stranger,), (("cancel", (0, 0)), ann))
            self.good(rule, (stranger, ("cancel", (0, 0)), stranger))
            self.fault((rule, ((stranger,), (("cancel", (0, 0)), ("cancel", (0, 0)), ann))), "cancel", (1, 1))
            self.fault((rule, ((("cancel", (5, 0)), ann),)), "cancel", (0, 0))
            self.fault((rule, ((("cancel", (0, 1)), ann),)), "cancel", (0, 0))
            self.fault((rule, ((("cancel", (1, 0)), stranger), (ann,))), "cancel", (0, 0))

    def test_no_fills_before_a_members_act(self):
        ann, hit = order("ann", "buy", 9, 2), order(None, "sell", 9, 1, (9, 1, (0, 0)))
        for rule in RULES:
            self.good(rule, (ann,), (hit, hit))
            self.good(rule, (ann,), (hit,), (("cancel", (0, 0)),))
            self.fault((rule, ((ann,), (hit, ("cancel", (0, 0))))), "place", (1, 1))
            self.fault((rule, ((ann,), (hit, order("bob", "sell", 9, 1, (9, 1, (0, 0)))))), "place", (1, 1))
            self.good(rule, (ann,), (hit, order(None, "buy", 8, 1), ("cancel", (1, 1))))
            self.fault((rule, ((ann,), (hit, order(None, "buy", 8, 1), order("bob", "buy", 9, 1)))), "place", (1, 2))

    def test_order_of_the_words(self):
        ann = order("ann", "buy", 9, 1)
        for rule in RULES:
            self.fault((rule, ((ann,), (order("bob", "up", 9, 1, (1, 1, (0, 0))), ann))), "place", (1, 0))
            self.fault((rule, ((ann,), (order("Bob", "sell", 9, 1),))), "order", (1, 0))
            self.fault((rule, ((ann,), (order("bob", "sell", 9, 1),))), "fills", (1, 0, 0))
            self.fault((rule, ((ann,), (order("bob", "sell", 9, 1),), (None,))), "shape", -1)
            self.fault((rule, ((order(None, "buy", 9, 0),), (order("Bob", "sell", 9, 1),))), "order", (0, 0))
            closed = (("closed",),), (ann,), (order(None, "sell", 8, 1),)
            self.fault((rule, closed + ((("call", 10, (((0, 0), 1),)),),)), "price", (3, 0))
            self.fault((rule, closed + ((("call", 9, (((0, 0), 1),)),),)), "fills", (3, 0))
            self.fault((rule, closed + ((("call", 9, (((0, 0), 1),)), ann),)), "place", (3, 0))

    def test_fills_by_each_rule(self):
        rests = (order("ann", "buy", 9, 1),), (order(None, "buy", 9, 1), order("bob", "buy", 9, 1))
        names = {"time": ((0, 0), (1, 0), (1, 1)), "late": ((1, 1), (1, 0), (0, 0)), "price": ((1, 0), (0, 0), (1, 1))}
        for rule in RULES:
            fills = tuple((9, 1, name) for name in names[rule])
            self.good(rule, *rests, (order(None, "sell", 9, 4, *fills), order(None, "sell", 10, 1)))
            for k in range(3):
                self.fault((rule, rests + ((order(None, "sell", 9, 3, *fills[:k]),),)), "fills", (2, 0, k))
                wrong = fills[:k] + ((9, 1, (2, 0)),) + fills[k + 1:]
                self.fault((rule, rests + ((order(None, "sell", 9, 3, *wrong),),)), "fills", (2, 0, k))
            self.fault((rule, rests + ((order(None, "sell", 9, 3, *fills, fills[0]),),)), "fills", (2, 0, 3))
            for part in ((9, 2, fills[0][2]), (8, 1, fills[0][2]), (9, 0, fills[0][2]), (9, 1, (0, 1)), (9, 1, (7, 0)),
                         (-9, -1, fills[0][2])):
                self.fault((rule, rests + ((order(None, "sell", 9, 3, part),),)), "fills", (2, 0, 0))
        self.fault(("time", rests + ((order(None, "sell", 9, 1, (9, 1, (1, 0))),),)), "fills", (2, 0, 0))
        self.fault(("late", rests + ((order(None, "sell", 9, 1, (9, 1, (1, 0))),),)), "fills", (2, 0, 0))

    def test_names_of_orders_that_have_not_come(self):
        for rule in RULES:
            self.fault((rule, ((order(None, "sell", 9, 1, (9, 1, (0, 0))),),)), "fills", (0, 0, 0))
            self.fault((rule, ((order(None, "sell", 9, 1, (9, 1, (0, 1))), order(None, "buy", 9, 1)),)),
                       "fills", (0, 0, 0))
            closed = (("closed",),), (order("ann", "buy", 9, 1),), (order(None, "sell", 8, 1),)
            for name in ((0, 0), (3, 0), (4, 0), (1, 1), (10 ** 59, 0)):
                pairs = tuple(sorted((((1, 0), 1), ((2, 0), 1), (name, 1))))
                self.fault((rule, closed + ((("call", 9, pairs),), (order("ann", "buy", 3, 1),))), "fills", (3, 0))
                pairs = tuple(sorted((((1, 0), 1), (name, 1))))
                self.fault((rule, closed + ((("call", 9, pairs),), (order("ann", "buy", 3, 1),))), "fills", (3, 0))
            self.good(rule, *closed, (("call", 9, (((1, 0), 1), ((2, 0), 1))),))
            self.fault((rule, closed + ((("call", 9, (((2, 0), 1), ((1, 0), 1))),),)), "fills", (3, 0))
            self.fault((rule, closed + ((("cancel", (4, 0)),), (order(None, "buy", 3, 1),))), "cancel", (3, 0))

    def test_true_is_not_one(self):
        good = ("time", ((order(None, "buy", 1, 1), order(None, "buy", 1, 1)),
                         (order(None, "sell", 1, 1, (1, 1, (0, 0))), order(None, "sell", 1, 1, (1, 1, (0, 1))))))
        self.good(*good[:1], *good[1])
        for path in places(good):
            if part_at(good, path) in (0, 1) and path:
                self.fault(changed(good, path, bool(part_at(good, path))), "shape", -1)

    def test_beyond_the_limits(self):
        many = 100
        orders = tuple(order(None, "buy", 10 ** 50 + a, 10 ** 59) for a in range(many))
        for rule in RULES:
            self.good(rule, orders, (order("ann", "sell", 1, 5, (10 ** 50 + many - 1, 5, (0, many - 1))),))
            self.good(rule, *[orders[:2]] * many)
            self.good(rule, *[()] * 400)
            self.good(rule, (("closed",),), orders, (("call", None, ()),))

    def test_names_of_arguments(self):
        self.assertEqual(lets_day(thing=("time", ())), 0)
        self.fault(RECORD, "shape", -1)


if __name__ == "__main__":
    unittest.main()
