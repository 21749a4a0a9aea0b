import copy
import inspect
import itertools
import random
import unittest

from fairshown.books import Book
from fairshown.calls import call_fills, call_prices, call_volume
from fairshown.errors import NotUsable

from helper import ANY_VALUES, RULES, DayError, OwnBook

SIDES = ("buy", "sell")


def shut(rule, *orders):
    book = Book(rule)
    book.close()
    for order in orders:
        book.order(*order)
    return book


def made_book(rng, rule, many=6, prices=(7, 8, 9, 10, 12), most=4):
    """A closed book with some orders, one of which may be cancelled."""
    book = shut(rule, *[(rng.choice(SIDES), rng.choice(prices), rng.randint(1, most)) for _ in range(many)])
    if len(book) and rng.random() < 0.3:
        book.cancel(rng.choice(list(book)))
    return book


def own_book(book):
    own = OwnBook(book.rule)
    own.closed = book.is_closed
    own.resting = [{"name": n, "member": None, "side": side, "price": price, "rest": rest}
                   for n, side, price, rest in book.resting()]
    return own


def volume(book, price):
    buys = sum(rest for _, side, x, rest in book.resting() if side == "buy" and x >= price)
    sells = sum(rest for _, side, x, rest in book.resting() if side == "sell" and x <= price)
    return min(buys, sells)


def prices_of(book):
    """The possible prices, each one tried as the definition says it."""
    rows = list(book.resting())
    if not any(a[1] == "buy" and b[1] == "sell" and a[2] >= b[2] for a in rows for b in rows):
        return ()
    prices = range(1, 2 + max(row[2] for row in rows))
    most = max(volume(book, price) for price in prices)
    found = []
    for price in prices:
        better_buys = sum(rest for _, side, x, rest in rows if side == "buy" and x > price)
        better_sells = sum(rest for _, side, x, rest in rows if side == "sell" and x < price)
        if volume(book, price) == most and better_buys <= most and better_sells <= most:
            found.append(price)
    return tuple(found)


def is_called(book, price, fills):
    try:
        own_book(book).call_told(price, fills)
    except DayError:
        return False
    return True


def fills_of(book, price):
    """All fills at a price, found by trying every share of every order."""
    rows = list(book.resting())
    found = []
    for shares in itertools.product(*[range(rest + 1) for _, _, _, rest in rows]):
        if sum(shares) == 2 * volume(book, price):
            fills = tuple((row[0], share) for row, share in zip(rows, shares) if share)
            if is_called(book, price, fills):
                found.append(fills)
    return sorted(found)


def state(book):
    return book.copy(), list(book.resting()), book.is_closed, book.came


class Calls(unittest.TestCase):
    def test_the_example(self):
        book = Book('price')
        book.close()
        told = [book.order('buy', 10, 2), book.order('buy', 8, 1), book.order('buy', 8, 1), book.order('sell', 7, 3)]
        self.assertEqual(told, [(), (), (), ()])
        self.assertEqual([call_prices(book), call_volume(book, 9), list(call_fills(book, 8)), book.call()],
                         [(8,), 2, [((0, 2), (1, 1), (3, 3)), ((0, 2), (2, 1), (3, 3))],
                          (8, ((0, 2), (1, 1), (3, 3)))])

    def test_volumes_at_all_prices(self):
        rng = random.Random(31)
        for k in range(60):
            book = made_book(rng, RULES[k % 3])
            for price in range(1, 15):
                self.assertEqual(call_volume(book, price), volume(book, price))

    def test_possible_prices(self):
        rng = random.Random(32)
        many = set()
        for k in range(500):
            book = made_book(rng, RULES[k % 3], rng.randint(0, 6))
            found = call_prices(book)
            self.assertEqual(found, prices_of(book))
            self.assertIs(type(found), tuple)
            many.add(len(found))
        self.assertLessEqual({0, 1, 2, 3, 4}, many)

    def test_prices_between_those_of_orders(self):
        self.assertEqual(call_prices(shut("time", ("buy", 12, 2), ("sell", 7, 2))), (7, 8, 9, 10, 11, 12))
        self.assertEqual(call_prices(shut("time", ("buy", 12, 3), ("sell", 7, 2))), (12,))
        self.assertEqual(call_prices(shut("time", ("buy", 12, 2), ("sell", 7, 3))), (7,))
        self.assertEqual(call_prices(shut("time", ("buy", 12, 2), ("buy", 9, 1), ("sell", 7, 2))), (9, 10, 11, 12))
        self.assertEqual(call_prices(shut("time", ("buy", 12, 2), ("sell", 9, 1), ("sell", 7, 2))), (7, 8, 9))
        self.assertEqual(call_prices(shut("time", ("buy", 7, 2), ("sell", 8, 2))), ())
        self.assertEqual(call_prices(shut("time", ("buy", 8, 2), ("buy", 9, 2))), ())
        self.assertEqual(call_prices(shut("time")), ())
        self.assertEqual(call_prices(shut("time", ("buy", 3, 1), ("sell", 1, 1))), (1, 2, 3))

    def test_all_fills(self):
        rng = random.Random(33)
        many = set()
        for k in range(150):
            book = made_book(rng, RULES[k % 3], rng.randint(3, 6), ((8, 9, 10), (9,))[k % 2], 2 + k % 2)
            for price in call_prices(book):
                found = list(call_fills(book, price))
                self.assertEqual(found, fills_of(book, price))
                many.add(len(found))
        self.assertGreater(len(many), 5)

    def test_six_orders_of_size_four(self):
        book = shut("price", *[("buy", 9, 4)] * 5 + [("sell", 9, 4)])
        found = list(call_fills(book, 9))
        self.assertEqual(len(found), 70)
        self.assertEqual(found, sorted(set(found)))
        self.assertEqual(found, fills_of(book, 9))
        for rule in ("time", "late"):
            book = shut(rule, *[("buy", 9, 4)] * 5 + [("sell", 9, 4)])
            self.assertEqual(list(call_fills(book, 9)), [(((0, 4), (5, 4)), ((4, 4), (5, 4)))[rule == "late"]])

    def test_a_generator_and_unchanged_books(self):
        book = shut("price", ("buy", 9, 2), ("buy", 9, 2), ("sell", 9, 2))
        before = state(book)
        found = call_fills(book, 9)
        self.assertTrue(inspect.isgenerator(found))
        for fills in found:
            self.assertIs(type(fills), tuple)
        self.assertEqual((call_prices(book), call_volume(book, 9)), ((9,), 2))
        self.assertEqual(state(book), before)
        self.assertEqual(list(zip(call_fills(book, 9), call_fills(book=book, price=9))),
                         [(fills, fills) for fills in fills_of(book, 9)])
        self.assertEqual((call_prices(book=book), call_volume(book=book, price=9)), ((9,), 2))


class CallOfABook(unittest.TestCase):
    def test_the_least_price_and_earlier_orders_first(self):
        rng = random.Random(34)
        for k in range(300):
            book = made_book(rng, RULES[k % 3], rng.randint(0, 6))
            twin = book.copy()
            prices = prices_of(book)
            price, fills = book.call()
            self.assertEqual(price, min(prices, default=None))
            if price is None:
                self.assertEqual(fills, ())
            else:
                # Of all that are possible the one that fills earlier orders most.
                rests = [n for n, _, _, _ in twin.resting()]
                best = max(call_fills(twin, price), key=lambda told: [dict(told).get(n, 0) for n in rests])
                self.assertEqual(fills, best)
            self.behind(twin, book, fills)

    def behind(self, before, book, fills):
        self.assertFalse(book.is_closed)
        self.assertEqual(book.came, before.came)
        left = [(n, side, price, rest - dict(fills).get(n, 0)) for n, side, price, rest in before.resting()]
        self.assertEqual(list(book.resting()), [row for row in left if row[3] > 0])
        if book.best("buy") is not None and book.best("sell") is not None:
            self.assertLess(book.best("buy"), book.best("sell"))

    def test_told_all_that_is_possible(self):
        rng = random.Random(35)
        for k in range(120):
            book = made_book(rng, RULES[k % 3], rng.randint(0, 6), (8, 9, 10), 3)
            if not prices_of(book):
                twin = book.copy()
                self.assertIsNone(twin.call_told(None, ()))
                self.behind(book, twin, ())
            for price in prices_of(book):
                for fills in call_fills(book, price):
                    twin = book.copy()
                    self.assertIsNone(twin.call_told(price, fills))
                    self.behind(book, twin, fills)

    def refused(self, book, word, price, fills):
        before, given = state(book), copy.deepcopy((price, fills))
        with self.assertRaises(NotUsable) as caught:
            book.call_told(price, fills)
        self.assertEqual(vars(caught.exception), {"word": word, "at": -1})
        self.assertEqual(state(book), before)
        self.assertEqual((price, fills), given)

    def test_prices_that_are_not_possible(self):
        for rule in RULES:
            book = shut(rule, ("buy", 3, 2), ("sell", 1, 2))
            for thing in ANY_VALUES:
                if thing not in (1, 2) or isinstance(thing, bool):
                    self.refused(book, "price", thing, ((0, 2), (1, 2)))
                    self.refused(book, "price", thing, ())
            for price in (4, -1, 0, True, None, 10 ** 59):
                self.refused(book, "price", price, None)
            for price in (1, 2, 3):
                book.copy().call_told(price, ((0, 2), (1, 2)))
            apart = shut(rule, ("buy", 3, 2), ("sell", 4, 2))
            for price in (3, 4, 0, False, (), "-"):
                self.refused(apart, "price", price, ())
            apart.copy().call_told(None, ())
            for fills in (((0, 1),), [], None, 0, "", ((),)):
                self.refused(apart, "fills", None, fills)

    def test_fills_that_are_not_possible(self):
        for rule in RULES:
            book = shut(rule, ("buy", 9, 2), ("buy", 9, 2), ("sell", 9, 2), ("sell", 10, 1))
            right = {"late": ((1, 2), (2, 2))}.get(rule, ((0, 2), (2, 2)))
            for thing in ANY_VALUES:
                self.refused(book, "fills", 9, thing)
            for fills in (list(right), right[::-1], right[:1], right + right[-1:], right + ((3, 1),), right + ((9, 1),),
                          (list(right[0]), right[1]), ((right[0][0], 1), right[1]), ((right[0][0], 3), (2, 3)),
                          (right[0], (2, 2, 2)), (right[0], (2, True)), (right[0], (2, 0)), ((-1, 2),) + right,
                          ((right[0][0], 1), (2, 1)), ((0, 0), (1, 2), (2, 2)), (right[0], (2, 3)),
                          (right[0], (2, 1), (3, 1))):
                self.refused(book, "fills", 9, fills)
            book.call_told(9, right)

    def test_better_orders_first_by_each_rule(self):
        for rule in RULES:
            book = shut(rule, ("buy", 9, 1), ("buy", 10, 1), ("buy", 9, 1), ("sell", 8, 2), ("sell", 9, 1))
            self.refused(book, "price", 10, ())
            for fills in (((0, 1), (2, 1), (3, 2)), ((0, 1), (1, 1), (3, 1), (4, 1)), ((1, 1), (3, 1))):
                self.refused(book, "fills", 9, fills)
            book.call_told(9, ((0, 1), (1, 1), (2, 1), (3, 2), (4, 1)))

    def test_better_orders_wholly_by_price(self):
        book = shut("price", ("buy", 9, 1), ("sell", 8, 1), ("sell", 9, 1))
        self.refused(book, "fills", 9, ((0, 1), (2, 1)))
        book.call_told(9, ((0, 1), (1, 1)))
        book = shut("price", ("sell", 9, 1), ("buy", 10, 1), ("buy", 9, 1))
        self.refused(book, "fills", 9, ((0, 1), (2, 1)))
        book.call_told(9, ((0, 1), (1, 1)))

    def test_every_share_tried(self):
        rng = random.Random(36)
        told = {True: 0, False: 0}
        for k in range(60):
            book = made_book(rng, RULES[k % 3], 4, (8, 9), 2)
            for price in prices_of(book):
                for shares in itertools.product(range(4), repeat=4):
                    fills = tuple((n, share) for n, share in enumerate(shares) if share)
                    possible = is_called(book, price, fills)
                    told[possible] += 1
                    if possible:
                        book.copy().call_told(price, fills)
                    else:
                        self.refused(book, "fills", price, fills)
        self.assertGreater(min(told.values()), 30)

    def test_no_gap(self):
        rng = random.Random(37)
        for k in range(200):
            book = made_book(rng, RULES[k % 3])
            prices = prices_of(book)
            self.assertEqual(prices, tuple(range(min(prices, default=1), max(prices, default=0) + 1)))
            for price in prices:
                twin = book.copy()
                twin.call_told(price, next(call_fills(book, price)))
                for _, side, x, _ in twin.resting():
                    self.assertLessEqual(*((x, price) if side == "buy" else (price, x)))

    def test_great_numbers(self):
        great = 10 ** 59
        for rule in RULES:
            book = shut(rule, ("buy", great, great), ("sell", 1, great), ("buy", great, 2))
            self.assertEqual(call_prices(book), (great,))
            fills = {"late": ((0, great - 2), (1, great), (2, 2))}.get(rule, ((0, great), (1, great)))
            self.assertEqual(book.copy().call(), (great, fills))
            self.refused(book, "fills", great, ((0, great), (1, great), (2, 1)))
            book.call_told(great, fills)


if __name__ == "__main__":
    unittest.main()
