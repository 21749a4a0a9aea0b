import copy
import random
import unittest

from fairshown.books import Book
from fairshown.errors import NotUsable, UnknownOrder

from helper import ANY_VALUES, PRICES, RULES, OwnBook, told_fault

SIDES = ("buy", "sell")


class Pair:
    """A book of the package beside one of the tests' own; what rests is reckoned again behind each event."""

    def __init__(self, rule, test):
        self.book = Book(rule)
        self.own = OwnBook(rule)
        self.came = {}
        self.test = test

    def close(self):
        self.test.assertIsNone(self.book.close())
        self.own.closed = True
        self.look()

    def order(self, side, price, size):
        n = len(self.came)
        self.came[n] = side, price
        fills = self.own.come(n, None, side, price, size, lambda there: there[0])
        self.test.assertEqual(self.book.order(side, price, size), fills)
        self.look()

    def told(self, rng, side, price, size):
        n = len(self.came)
        self.came[n] = side, price
        fills = self.own.come(n, None, side, price, size, rng.choice)
        self.test.assertEqual(self.book.order_told(side, price, size, fills), fills)
        self.look()

    def cancel(self, n):
        self.own.resting = [order for order in self.own.resting if order["name"] != n]
        self.test.assertIsNone(self.book.cancel(n))
        self.look()

    def call(self):
        price = self.own.call_prices()[0]
        pairs = []
        for side in SIDES if price is not None else ():
            pairs += self.own.call_share(side, price, {"late": lambda there: there[::-1]}.get(self.own.rule, list))
        self.own.call_told(price, tuple(sorted(pairs)))
        self.test.assertEqual(self.book.call(), (price, tuple(sorted(pairs))))
        self.look()

    def look(self):
        test, book, own = self.test, self.book, self.own
        rests = {order["name"]: order["rest"] for order in own.resting}
        test.assertEqual((book.rule, book.is_closed, book.came), (own.rule, own.closed, len(self.came)))
        test.assertIs(type(book.is_closed), bool)
        test.assertEqual(list(book), sorted(rests))
        test.assertEqual(len(book), len(rests))
        test.assertEqual(list(book.resting()), [(n,) + self.came[n] + (rests[n],) for n in sorted(rests)])
        for n in self.came:
            test.assertIs(n in book, n in rests)
            test.assertEqual(book.rest(n), rests.get(n, 0))
        test.assertNotIn(len(self.came), book)
        with test.assertRaises(UnknownOrder) as caught:
            book.rest(len(self.came))
        test.assertEqual(caught.exception.n, len(self.came))
        for side in SIDES:
            self.look_at(side, rests)

    def look_at(self, side, rests):
        test, book = self.test, self.book
        there = {n: self.came[n][1] for n in rests if self.came[n][0] == side}
        prices = sorted(set(there.values()), reverse=side == "buy")
        test.assertEqual(book.best(side), prices[0] if prices else None)
        depth = tuple((price, sum(rests[n] for n in there if there[n] == price)) for price in prices)
        test.assertEqual(book.depth(side), depth)
        for price in range(1, 14):
            queue = sorted((n for n in there if there[n] == price), reverse=book.rule == "late")
            test.assertEqual(book.queue(side, price), tuple(queue))


def lead(pair, rng, many):
    for _ in range(many):
        resting = list(pair.book)
        deed = rng.random()
        if pair.book.is_closed and deed < 0.1:
            pair.call()
        elif resting and deed < 0.25:
            pair.cancel(rng.choice(resting))
        elif deed < 0.6:
            pair.told(rng, rng.choice(SIDES), rng.choice(PRICES), rng.randint(1, 5))
        else:
            pair.order(rng.choice(SIDES), rng.choice(PRICES), rng.randint(1, 5))


def filled(rule, *orders):
    book = Book(rule)
    for order in orders:
        book.order(*order)
    return book


def state(book):
    """All that can be asked of a book, and whether it can still be closed."""
    twin = book.copy()
    try:
        twin.close()
        once = False
    except NotUsable:
        once = True
    return (book.rule, book.is_closed, book.came, list(book.resting()), once)


class Led(unittest.TestCase):
    def test_by_each_rule(self):
        rng = random.Random(11)
        for k in range(90):
            pair = Pair(RULES[k % 3], self)
            pair.look()
            if k % 2:
                pair.close()
            lead(pair, rng, 25)
            if pair.book.is_closed:
                pair.call()
                lead(pair, rng, 10)

    def test_the_earliest_the_latest_or_any(self):
        orders = (("sell", 9, 2), ("sell", 8, 1), ("sell", 9, 1), ("sell", 9, 1))
        self.assertEqual(filled("time", *orders).order("buy", 9, 4), ((8, 1, 1), (9, 2, 0), (9, 1, 2)))
        self.assertEqual(filled("late", *orders).order("buy", 9, 4), ((8, 1, 1), (9, 1, 3), (9, 1, 2), (9, 1, 0)))
        self.assertEqual(filled("price", *orders).order("buy", 9, 4), ((8, 1, 1), (9, 2, 0), (9, 1, 2)))
        for rule in RULES:
            self.assertEqual(filled(rule, *orders).order("buy", 8, 4), ((8, 1, 1),))
            self.assertEqual(filled(rule, *orders).order("buy", 7, 4), ())
            self.assertEqual(filled(rule, *orders).order("sell", 1, 4), ())
            turned = filled(rule, ("buy", 9, 2), ("buy", 10, 2), ("buy", 8, 1))
            self.assertEqual(turned.order("sell", 9, 5), ((10, 2, 1), (9, 2, 0)))
            self.assertEqual(turned.rest(3), 1)
            self.assertEqual(turned.queue("sell", 9), (3,))

    def test_sizes_above_prices(self):
        for rule in RULES:
            book = filled(rule, ("sell", 1, 5), ("sell", 2, 5), ("sell", 2, 5))
            fills = ((1, 5, 0), (2, 5, 1 + (rule == "late")), (2, 1, 2 - (rule == "late")))
            self.assertEqual(book.copy().order("buy", 2, 11), fills)
            self.assertEqual(book.copy().order_told("buy", 2, 11, fills), fills)

    def test_an_open_book_is_never_crossed(self):
        rng = random.Random(12)
        for k in range(60):
            pair = Pair(RULES[k % 3], self)
            for _ in range(12):
                side, price, size = rng.choice(SIDES), rng.choice(PRICES), rng.randint(1, 4)
                before = dict((n, rest) for n, _, _, rest in pair.book.resting())
                fills = pair.book.copy().order(side, price, size)
                pair.order(side, price, size)
                taken = sum(fill[1] for fill in fills)
                self.assertEqual(taken + pair.book.rest(pair.book.came - 1), size)
                prices = [fill[0] for fill in fills]
                self.assertEqual(prices, sorted(prices, reverse=side == "sell"))
                self.assertTrue(all(before[n] == lots for _, lots, n in fills[:-1]))
                if pair.book.best("buy") and pair.book.best("sell"):
                    self.assertLess(pair.book.best("buy"), pair.book.best("sell"))

    def test_a_closed_book_trades_nothing(self):
        for rule in RULES:
            book = Book(rule)
            book.close()
            self.assertEqual(book.order("buy", 10, 2), ())
            self.assertEqual(book.order("sell", 9, 3), ())
            self.assertEqual(book.order_told("sell", 8, 1, ()), ())
            self.assertEqual(list(book.resting()), [(0, "buy", 10, 2), (1, "sell", 9, 3), (2, "sell", 8, 1)])
            self.assertEqual(book.depth("sell"), ((8, 1), (9, 3)))

    def test_arguments_by_name(self):
        book = Book(rule="late")
        self.assertEqual(book.order(side="sell", price=9, size=2), ())
        self.assertEqual(book.order_told(side="buy", price=9, size=1, fills=((9, 1, 0),)), ((9, 1, 0),))
        self.assertEqual((book.rest(n=0), book.best(side="sell"), book.depth(side="sell")), (1, 9, ((9, 1),)))
        self.assertEqual(book.queue(side="sell", price=9), (0,))
        book.cancel(n=0)
        twin = Book(rule="price")
        twin.close()
        self.assertIsNone(twin.call_told(price=None, fills=()))


class Looks(unittest.TestCase):
    def test_any_values(self):
        book = filled("time", ("sell", 9, 2), ("sell", 1, 1))
        for thing in ANY_VALUES:
            there = thing in (0, 1) and not isinstance(thing, bool)
            self.assertIs(thing in book, there, thing)
            if there:
                self.assertEqual(book.rest(thing), (2, 1)[thing])
            else:
                with self.assertRaises(UnknownOrder) as caught:
                    book.rest(thing)
                self.assertIs(caught.exception.n, thing)
                with self.assertRaises(UnknownOrder) as caught:
                    book.cancel(thing)
                self.assertIs(caught.exception.n, thing)
            one = thing == 1 and not isinstance(thing, bool)
            self.assertEqual(book.queue("sell", thing), (1,) if one else ())
            self.assertEqual(book.queue("buy", thing), ())
        self.assertEqual(state(book)[3], [(0, "sell", 9, 2), (1, "sell", 1, 1)])

    def test_an_order_that_is_gone(self):
        book = filled("time", ("sell", 9, 2), ("buy", 9, 2), ("sell", 9, 1))
        book.cancel(2)
        for n in (0, 1, 2):
            self.assertEqual(book.rest(n), 0)
            self.assertNotIn(n, book)
            with self.assertRaises(UnknownOrder) as caught:
                book.cancel(n)
            self.assertEqual(caught.exception.n, n)
        self.assertEqual((book.came, len(book), list(book), list(book.resting())), (3, 0, [], []))
        self.assertEqual((book.best("buy"), book.depth("sell"), book.queue("sell", 9)), (None, (), ()))

    def test_results_are_of_their_kind(self):
        book = filled("late", ("sell", 9, 2), ("sell", 9, 2))
        for result in (book.order("buy", 8, 1), book.depth("sell"), book.queue("sell", 9), next(book.resting())):
            self.assertIs(type(result), tuple)
        self.assertIs(type(book.depth("sell")[0]), tuple)

    def test_a_walk_tells_the_moment_at_which_it_began(self):
        for change in (lambda book: book.cancel(1), lambda book: book.order("sell", 9, 4),
                       lambda book: book.order("buy", 9, 9), lambda book: book.cancel(2)):
            book = filled("time", ("sell", 9, 2), ("sell", 10, 3), ("sell", 9, 1))
            names, rows = iter(book), book.resting()
            self.assertEqual((next(names), next(rows)), (0, (0, "sell", 9, 2)))
            change(book)
            self.assertEqual(list(names), [1, 2])
            self.assertEqual(list(rows), [(1, "sell", 10, 3), (2, "sell", 9, 1)])
            self.assertNotEqual(list(book.resting()), [(0, "sell", 9, 2), (1, "sell", 10, 3), (2, "sell", 9, 1)])

    def test_a_walk_in_which_the_book_changes(self):
        book = filled("time", ("sell", 9, 2), ("sell", 10, 3), ("sell", 9, 1))
        for n in book:
            book.cancel(n)
        self.assertEqual(len(book), 0)
        book = filled("time", ("sell", 9, 2), ("sell", 10, 3), ("sell", 9, 1))
        for n, side, price, rest in book.resting():
            book.order(side, price + 1, rest)
        self.assertEqual((len(book), book.came), (6, 6))

    def test_walks_beside_each_other(self):
        book = filled("price", ("sell", 9, 2), ("sell", 10, 3))
        self.assertEqual([(a, b) for a in book for b in book], [(0, 0), (0, 1), (1, 0), (1, 1)])
        pairs = [(a, b) for (a, _, _, _), (b, _, _, _) in zip(book.resting(), book.resting())]
        self.assertEqual(pairs, [(0, 0), (1, 1)])


class Errors(unittest.TestCase):
    def refused(self, book, word, at, deed):
        before = state(book)
        with self.assertRaises(NotUsable) as caught:
            deed()
        self.assertEqual((caught.exception.word, caught.exception.at), (word, at))
        self.assertIs(type(caught.exception.at), int)
        self.assertEqual(state(book), before)

    def test_rule(self):
        for thing in ANY_VALUES:
            if thing in RULES and isinstance(thing, str):
                self.assertEqual(Book(thing).rule, thing)
            else:
                with self.assertRaises(NotUsable) as caught:
                    Book(thing)
                self.assertEqual((caught.exception.word, caught.exception.at), ("rule", -1))

    def test_arguments_of_an_order(self):
        book = filled("time", ("sell", 9, 2))
        for thing in ANY_VALUES:
            if thing not in SIDES:
                self.refused(book, "side", -1, lambda: book.order(thing, 9, 1))
                self.refused(book, "side", -1, lambda: book.order(thing, 0, None))
                self.refused(book, "side", -1, lambda: book.order_told(thing, None, 0, None))
            if isinstance(thing, bool) or not isinstance(thing, int) or thing < 1:
                self.refused(book, "price", -1, lambda: book.order("buy", thing, 1))
                self.refused(book, "price", -1, lambda: book.order("buy", thing, 0))
                self.refused(book, "price", -1, lambda: book.order_told("buy", thing, (), 5))
                self.refused(book, "size", -1, lambda: book.order("buy", 9, thing))
                self.refused(book, "size", -1, lambda: book.order_told("buy", 9, thing, []))
            if not isinstance(thing, tuple):
                self.refused(book, "fills", 0, lambda: book.order_told("buy", 9, 1, thing))
            elif thing != ():
                self.refused(book, "fills", 0, lambda: book.order_told("buy", 9, 1, thing))

    def test_close(self):
        for rule in RULES:
            book = Book(rule)
            book.close()
            self.refused(book, "closed", -1, book.close)
            book.order("buy", 9, 1)
            self.refused(book, "closed", -1, book.close)
            book.call()
            self.refused(book, "closed", -1, book.close)
            book = Book(rule)
            book.close()
            book.call()
            self.assertEqual((book.came, book.is_closed), (0, False))
            self.refused(book, "closed", -1, book.close)
            book = filled(rule, ("buy", 9, 1))
            self.refused(book, "closed", -1, book.close)
            book.cancel(0)
            self.refused(book, "closed", -1, book.close)

    def test_call_of_an_open_book(self):
        for rule in RULES:
            book = Book(rule)
            self.refused(book, "open", -1, book.call)
            self.refused(book, "open", -1, lambda: book.call_told(None, ()))
            self.refused(book, "open", -1, lambda: book.call_told("x", "y"))
            book.close()
            book.call()
            self.refused(book, "open", -1, book.call)

    def test_a_refused_order_has_no_number(self):
        book = Book("time")
        for arguments in (("up", 9, 1), ("buy", 0, 1), ("buy", 9, -1)):
            with self.assertRaises(NotUsable):
                book.order(*arguments)
        book.close()
        book.order("buy", 9, 1)
        self.assertEqual(list(book.resting()), [(0, "buy", 9, 1)])


class Told(unittest.TestCase):
    """order_told with fills that are as they have to be, and with fills that are changed in one way."""

    def fault(self, book, side, price, size, fills):
        own = OwnBook(book.rule)
        own.closed = book.is_closed
        own.resting = [{"name": n, "member": None, "side": one, "price": x, "rest": rest}
                       for n, one, x, rest in book.resting()]
        return told_fault(own, side, price, size, fills)

    def told(self, book, side, price, size, fills):
        fault = self.fault(book, side, price, size, fills)
        before = state(book)
        twin = book.copy()
        if fault is None:
            self.assertEqual(twin.order_told(side, price, size, fills), fills)
            rests = dict((n, rest) for n, _, _, rest in book.resting())
            rests[book.came] = size - sum(fill[1] for fill in fills)
            for _, lots, n in fills:
                rests[n] -= lots
            self.assertEqual({n: rest for n, _, _, rest in twin.resting()},
                             {n: rest for n, rest in rests.items() if rest})
            self.assertEqual(twin.came, book.came + 1)
        else:
            with self.assertRaises(NotUsable) as caught:
                twin.order_told(side, price, size, fills)
            self.assertEqual((caught.exception.word, caught.exception.at), ("fills", fault))
            self.assertEqual(state(twin), before)
        self.assertEqual(state(book), before)
        return fault

    def changed(self, fills):
        """The fills, and others that differ in one thing."""
        yield from (fills, list(fills), fills[:-1], fills[1:], fills[::-1], fills + fills[-1:], None, 0, "()")
        for k, (x, size, n) in enumerate(fills):
            others = ((x + 1, size, n), (x - 1, size, n), (x, size + 1, n), (x, size - 1, n), (x, size, n + 1),
                      (x, size, n - 1), (x, size, None), (x, size, 99), [x, size, n], (x, size), (x, size, n, n),
                      (x, size, bool(n)), (x, True, n), (str(x), size, n), None, x, (), (x, size, -1), (x, 0, n))
            for other in others:
                yield fills[:k] + (other,) + fills[k + 1:]
            yield fills[:k] + fills[k + 1:]
            yield fills[:k] + (fills[k],) + fills[k:]
            yield fills[:k + 1]
            for j in range(k):
                yield fills[:j] + (fills[k],) + fills[j + 1:k] + (fills[j],) + fills[k + 1:]

    def test_changed_fills(self):
        rng = random.Random(13)
        faults = set()
        for k in range(60):
            book = Book(RULES[k % 3])
            for _ in range(7):
                book.order(rng.choice(SIDES), rng.choice(PRICES), rng.randint(1, 3))
            side = rng.choice(SIDES)
            price = rng.choice(PRICES)
            size = rng.randint(1, 7)
            own = OwnBook(book.rule)
            own.resting = [{"name": n, "member": None, "side": one, "price": x, "rest": rest}
                           for n, one, x, rest in book.resting()]
            fills = own.come(99, None, side, price, size, rng.choice)
            for other in self.changed(fills):
                faults.add(self.told(book, side, price, size, other))
        self.assertLessEqual({None, 0, 1, 2, 3}, faults)

    def test_no_fills_where_nothing_crosses(self):
        for rule in RULES:
            book = filled(rule, ("sell", 9, 2))
            self.assertIsNone(self.told(book, "buy", 8, 1, ()))
            self.assertEqual(self.told(book, "buy", 8, 1, ((9, 1, 0),)), 0)
            self.assertEqual(self.told(book, "buy", 8, 1, ((8, 1, 0),)), 0)
            self.assertEqual(self.told(book, "buy", 9, 1, ()), 0)
            self.assertEqual(self.told(book, "sell", 9, 1, ((9, 1, 0),)), 0)
            self.assertIsNone(self.told(book, "sell", 9, 1, ()))

    def test_closed(self):
        for rule in RULES:
            book = Book(rule)
            book.close()
            book.order("sell", 9, 2)
            self.assertIsNone(self.told(book, "buy", 9, 1, ()))
            self.assertEqual(self.told(book, "buy", 9, 1, ((9, 1, 0),)), 0)
            self.assertEqual(self.told(book, "buy", 9, 1, [(9, 1, 0)]), 0)

    def test_true_is_not_one(self):
        book = filled("time", ("sell", 1, 1), ("sell", 1, 1))
        self.assertEqual(self.told(book, "buy", 1, 2, ((True, 1, 0), (1, 1, 1))), 0)
        self.assertEqual(self.told(book, "buy", 1, 2, ((1, True, 0), (1, 1, 1))), 0)
        self.assertEqual(self.told(book, "buy", 1, 2, ((1, 1, False), (1, 1, 1))), 0)
        self.assertEqual(self.told(book, "buy", 1, 2, ((1, 1, 0), (1, 1, True))), 1)
        self.assertIsNone(self.told(book, "buy", 1, 2, ((1, 1, 0), (1, 1, 1))))

    def test_arguments_stay_as_they_are(self):
        book = filled("price", ("sell", 9, 2), ("sell", 9, 1))
        for fills in (((9, 2, 0), (9, 1, 1)), [(9, 2, 0)], ([9, 2, 0],)):
            before = copy.deepcopy(fills)
            try:
                book.order_told("buy", 9, 3, fills)
            except NotUsable:
                pass
            self.assertEqual(fills, before)


class Equal(unittest.TestCase):
    def test_equal_books(self):
        for rule in RULES:
            one = filled(rule, ("sell", 9, 2), ("buy", 9, 1))
            self.assertTrue(one == filled(rule, ("sell", 9, 2), ("buy", 9, 1)))
            self.assertFalse(one != filled(rule, ("sell", 9, 2), ("buy", 9, 1)))
            # What traded before does not count, only what rests.
            self.assertEqual(one, filled(rule, ("sell", 9, 3), ("buy", 9, 2)))

    def test_each_part_counts(self):
        one = filled("time", ("sell", 9, 2), ("sell", 9, 1))
        others = [filled("late", ("sell", 9, 2), ("sell", 9, 1)), filled("time", ("sell", 9, 2)),
                  filled("time", ("sell", 9, 1), ("sell", 9, 1)), filled("time", ("sell", 8, 2), ("sell", 9, 1)),
                  filled("time", ("buy", 9, 2), ("buy", 9, 1)), filled("time", ("sell", 9, 1), ("sell", 9, 2)),
                  filled("time", ("buy", 8, 1), ("sell", 9, 2), ("sell", 9, 1)),
                  filled("time", ("sell", 9, 2), ("sell", 9, 1), ("sell", 7, 1))]
        others[-2].cancel(0)
        others[-1].cancel(2)
        closed = Book("time")
        closed.close()
        closed.order("sell", 9, 2)
        closed.order("sell", 9, 1)
        for other in others + [closed]:
            self.assertFalse(one == other)
            self.assertFalse(other == one)
            self.assertTrue(one != other)
        closed.call()
        self.assertEqual(one, closed)

    def test_whether_it_was_closed_does_not_count(self):
        once = Book("late")
        once.close()
        once.call()
        self.assertEqual(once, Book("late"))
        self.assertFalse(once != Book("late"))
        with self.assertRaises(NotUsable):
            once.close()
        Book("late").close()

    def test_other_values(self):
        for thing in ANY_VALUES + (OwnBook("time"), Book):
            self.assertFalse(Book("time") == thing)
            self.assertTrue(Book("time") != thing)


class Copies(unittest.TestCase):
    def test_a_copy_changes_for_itself(self):
        for rule in RULES:
            book = filled(rule, ("sell", 9, 2), ("sell", 9, 1))
            twin = book.copy()
            self.assertIsNot(book, twin)
            self.assertEqual((book, state(book)), (twin, state(twin)))
            twin.order("buy", 9, 1)
            self.assertEqual(list(book.resting()), [(0, "sell", 9, 2), (1, "sell", 9, 1)])
            self.assertNotEqual(book, twin)
            third = twin.copy()
            book.cancel(0)
            self.assertEqual(sum(rest for _, _, _, rest in twin.resting()), 2)
            self.assertEqual(third, twin)

    def test_a_copy_of_a_closed_book(self):
        for rule in RULES:
            book = Book(rule)
            book.close()
            book.order("sell", 9, 2)
            twin = book.copy()
            self.assertTrue(twin.is_closed)
            self.assertEqual(twin, book)
            twin.call()
            self.assertTrue(book.is_closed)
            self.assertNotEqual(twin, book)
            third = twin.copy()
            self.assertEqual(third, twin)
            empty = Book(rule)
            empty.close()
            empty.call()
            with self.assertRaises(NotUsable) as caught:
                empty.copy().close()
            self.assertEqual((caught.exception.word, caught.exception.at), ("closed", -1))
            Book(rule).copy().close()


class Left(Exception):
    """An exception of the tests by which a trial is left."""


class Trials(unittest.TestCase):
    def test_within_it_is_the_book_itself(self):
        book = filled("time", ("sell", 9, 2))
        before = state(book)
        with book.trial() as late:
            self.assertIs(late, book)
            late.order("buy", 9, 1)
            self.assertEqual((book.rest(0), book.came), (1, 2))
            book.cancel(0)
            self.assertEqual(len(late), 0)
        self.assertEqual(state(book), before)
        self.assertEqual(book.order("buy", 9, 3), ((9, 2, 0),))

    def test_left_by_an_exception(self):
        book = filled("late", ("sell", 9, 2))
        before = state(book)
        with self.assertRaises(Left):
            with book.trial():
                book.cancel(0)
                raise Left
        self.assertEqual(state(book), before)
        with self.assertRaises(UnknownOrder):
            with book.trial() as late:
                late.order("buy", 10, 1)
                late.cancel(77)
        self.assertEqual(state(book), before)

    def test_left_by_a_return(self):
        book = filled("late", ("sell", 9, 2))

        def tried():
            with book.trial() as late:
                return late.order("buy", 9, 2)

        self.assertEqual((tried(), tried()), (((9, 2, 0),), ((9, 2, 0),)))
        for _ in range(2):
            with book.trial():
                book.cancel(0)
                continue
        self.assertEqual(len(book), 1)

    def test_one_within_another(self):
        book = filled("price", ("sell", 9, 2))
        with book.trial():
            book.order("buy", 9, 1)
            middle = state(book)
            with book.trial() as late:
                late.cancel(0)
                with late.trial():
                    late.order("sell", 3, 3)
                self.assertEqual(list(book), [])
            self.assertEqual(state(book), middle)
            book.order("buy", 1, 1)
        self.assertEqual(list(book.resting()), [(0, "sell", 9, 2)])
        self.assertEqual(book.came, 1)

    def test_the_moment_at_which_the_with_begins(self):
        book = filled("time", ("sell", 9, 2))
        trial = book.trial()
        book.order("sell", 9, 1)
        with trial:
            book.cancel(0)
        self.assertEqual(list(book), [0, 1])
        book.cancel(1)
        with trial:
            book.order("sell", 5, 5)
            with trial as late:
                late.cancel(0)
            self.assertEqual(list(book), [0, 2])
        self.assertEqual((list(book), book.came), ([0], 2))

    def test_all_of_it_comes_back(self):
        for rule in RULES:
            book = Book(rule)
            with book.trial() as late:
                late.close()
                late.order("buy", 9, 1)
                late.order("sell", 9, 1)
                late.call()
            self.assertEqual(state(book), (rule, False, 0, [], False))
            book.close()
            book.order("buy", 9, 1)
            book.order("sell", 9, 2)
            with book.trial() as late:
                self.assertEqual(late.call(), (9, ((0, 1), (1, 1))))
                self.assertFalse(book.is_closed)
            self.assertTrue(book.is_closed)
            self.assertEqual(book.call(), (9, ((0, 1), (1, 1))))

    def test_a_copy_that_was_made_within_stays(self):
        book = filled("time", ("sell", 9, 2))
        with book.trial() as late:
            late.order("sell", 8, 1)
            twin = late.copy()
        self.assertEqual((list(twin), list(book)), ([0, 1], [0]))

    def test_two_books(self):
        one, other = filled("time", ("sell", 9, 2)), filled("time", ("buy", 9, 2))
        with one.trial(), other.trial():
            one.cancel(0)
            other.cancel(0)
        self.assertEqual((list(one), list(other)), ([0], [0]))


class Example(unittest.TestCase):
    def test_of_the_document(self):
        book = Book('time')
        told = [book.order('sell', 9, 2), book.order('sell', 8, 1), book.order('sell', 9, 1), book.order('buy', 9, 2)]
        self.assertEqual(told, [(), (), (), ((8, 1, 1), (9, 1, 0))])
        with self.assertRaises(NotUsable) as caught:
            book.order_told('buy', 9, 2, ((9, 1, 0), (9, 1, 1)))
        self.assertEqual(vars(caught.exception), {"word": "fills", "at": 1})


if __name__ == "__main__":
    unittest.main()
