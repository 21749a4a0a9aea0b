import copy
import inspect
import itertools
import random
import unittest

from fairshown.books import Book
from fairshown.errors import NotUsable
from fairshown.takings import takings

from helper import RULES, DayError, OwnBook

SIDES = ("buy", "sell")


def own_book(book):
    own = OwnBook(book.rule)
    own.closed = book.is_closed
    own.resting = [{"name": n, "member": None, "side": side, "price": price, "rest": rest}
                   for n, side, price, rest in book.resting()]
    return own


def is_taken(book, side, price, size, fills):
    """Whether the tests' own book lets such an order come with these fills."""
    try:
        own_book(book).come(book.came, None, side, price, size, fills)
    except DayError:
        return False
    return True


def all_takings(book, side, price, size):
    """All takings, found by trying every way to fill one order after another, however often."""
    single = [(x, lots, n) for n, _, x, rest in book.resting() for lots in range(1, min(size, rest) + 1)]
    found = []
    for many in range(size + 1):
        for fills in itertools.product(single, repeat=many):
            if sum(fill[1] for fill in fills) <= size and is_taken(book, side, price, size, fills):
                found.append(fills)
    return sorted(found)


def made_book(rng, rule, many, prices=(9, 10), most=3):
    book = Book(rule)
    for _ in range(many):
        book.order(rng.choice(SIDES), rng.choice(prices), rng.randint(1, most))
    return book


class Takings(unittest.TestCase):
    def test_the_example(self):
        book = Book('price')
        self.assertEqual([book.order('sell', 9, 2), book.order('sell', 9, 1), list(takings(book, 'buy', 9, 2))],
                         [(), (), [((9, 1, 1), (9, 1, 0)), ((9, 2, 0),)]])

    def test_found_by_trying_all(self):
        rng = random.Random(21)
        many = set()
        for k in range(180):
            book = made_book(rng, RULES[k % 3], rng.randint(0, 5), most=2)
            arguments = rng.choice(SIDES), rng.choice((8, 9, 10, 11)), rng.randint(1, 4)
            found = list(takings(book, *arguments))
            self.assertEqual(found, all_takings(book, *arguments))
            many.add(len(found))
        self.assertGreater(len(many), 3)

    def test_six_orders(self):
        book = Book("price")
        for size in (1, 1, 2, 2, 3, 3):
            book.order("sell", 9, size)
        found = list(takings(book, "buy", 9, 12))
        self.assertEqual(len(found), 720)
        self.assertEqual(found, sorted(set(found)))
        for fills in found:
            self.assertEqual(sorted(fill[2] for fill in fills), [0, 1, 2, 3, 4, 5])
        for fills in takings(book, "buy", 9, 5):
            self.assertEqual(sum(fill[1] for fill in fills), 5)

    def test_sizes_above_prices(self):
        book = Book("price")
        for price, size in ((1, 5), (2, 4), (2, 5)):
            book.order("sell", price, size)
        self.assertEqual(list(takings(book, "buy", 2, 10)), [((1, 5, 0), (2, 4, 1), (2, 1, 2)),
                                                             ((1, 5, 0), (2, 5, 2))])
        self.assertEqual(list(takings(book, "buy", 2, 11)), [((1, 5, 0), (2, 4, 1), (2, 2, 2)),
                                                             ((1, 5, 0), (2, 5, 2), (2, 1, 1))])

    def test_one_by_time_and_by_late(self):
        rng = random.Random(22)
        for k in range(200):
            book = made_book(rng, ("time", "late")[k % 2], 6)
            arguments = rng.choice(SIDES), rng.choice((8, 9, 10, 11)), rng.randint(1, 6)
            self.assertEqual(list(takings(book, *arguments)), [book.copy().order(*arguments)])

    def test_those_of_time_and_late_are_among_those_of_price(self):
        rng = random.Random(23)
        for _ in range(100):
            orders = [("sell", rng.choice((9, 10)), rng.randint(1, 3)) for _ in range(5)]
            books = {rule: Book(rule) for rule in RULES}
            for rule in RULES:
                for order in orders:
                    books[rule].order(*order)
            size = rng.randint(1, 8)
            free = list(takings(books["price"], "buy", 10, size))
            self.assertIn(books["price"].order("buy", 10, size), free)
            for rule in ("time", "late"):
                self.assertIn(next(takings(books[rule], "buy", 10, size)), free)
            sums = [{x: sum(fill[1] for fill in fills if fill[0] == x) for x in (9, 10)} for fills in free]
            self.assertTrue(all(one == sums[0] for one in sums))
            self.assertEqual(len({tuple(sorted({fill[0] for fill in fills})) for fills in free}), 1)

    def test_order_told_takes_these_and_no_others(self):
        rng = random.Random(24)
        for k in range(60):
            book = made_book(rng, RULES[k % 3], 5, most=2)
            found = list(takings(book, "buy", 10, 3))
            single = [(x, lots, n) for n, _, x, _ in book.resting() for lots in (1, 2)]
            for many in range(3):
                for fills in itertools.product(single, repeat=many):
                    try:
                        book.copy().order_told("buy", 10, 3, fills)
                        self.assertIn(fills, found)
                    except NotUsable as error:
                        self.assertEqual(error.word, "fills")
                        self.assertNotIn(fills, found)
            for fills in found:
                self.assertEqual(book.copy().order_told("buy", 10, 3, fills), fills)

    def test_a_closed_book(self):
        for rule in RULES:
            book = Book(rule)
            book.close()
            self.assertEqual(list(takings(book, "buy", 9, 1)), [()])
            book.order("sell", 9, 2)
            self.assertEqual(list(takings(book, "buy", 9, 1)), [()])
            book.call()
            self.assertEqual(list(takings(book, "buy", 9, 1)), [((9, 1, 0),)])

    def test_nothing_to_take(self):
        for rule in RULES:
            book = Book(rule)
            self.assertEqual(list(takings(book, "sell", 9, 1)), [()])
            book.order("sell", 9, 2)
            self.assertEqual(list(takings(book, "sell", 9, 1)), [()])
            self.assertEqual(list(takings(book, "buy", 8, 1)), [()])
            self.assertEqual(list(takings(book, "buy", 9, 3)), [((9, 2, 0),)])

    def test_a_generator_that_changes_nothing(self):
        book = made_book(random.Random(25), "price", 6)
        before = book.copy(), list(book.resting())
        found = takings(book, "buy", 10, 4)
        self.assertTrue(inspect.isgenerator(found))
        for fills in found:
            self.assertIs(type(fills), tuple)
            self.assertEqual((book, list(book.resting())), before)
        arguments = copy.deepcopy(("buy", 10, 4))
        self.assertEqual(list(takings(book, *arguments)), list(takings(book=book, side="buy", price=10, size=4)))
        self.assertEqual(arguments, ("buy", 10, 4))

    def test_two_at_once(self):
        book = Book("price")
        for _ in range(3):
            book.order("sell", 9, 1)
        one, other = takings(book, "buy", 9, 2), takings(book, "buy", 9, 3)
        pairs = list(zip(one, other))
        self.assertEqual([pair[0] for pair in pairs], all_takings(book, "buy", 9, 2))
        self.assertEqual([pair[1] for pair in pairs], all_takings(book, "buy", 9, 3))


if __name__ == "__main__":
    unittest.main()
