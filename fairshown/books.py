"""A book of an exchange at a moment."""

from fairshown.calls import are_call_fills, first_call_fills, is_call_price, least_call_price
from fairshown.errors import NotUsable, UnknownOrder
from fairshown.held import Held
from fairshown.kinds import is_integer, is_number, is_positive, is_rule, is_side
from fairshown.places import lots
from fairshown.takings import best_price, first_taking, less_fill, queue_at, taking_fault


class Moment:
    """What can change in a book. A moment itself never changes: a walk or a trial may keep it."""

    def __init__(self, closed, once_closed, many, orders):
        self.closed = closed
        self.once_closed = once_closed
        self.many = many
        self.orders = orders


class Trial:
    """Behind a with of it, however it is left, the book is as it was."""

    def __init__(self, book):
        self._book = book
        self._held = None

    def __enter__(self):
        self._held = Held(self._book._now, self._held)
        return self._book

    def __exit__(self, kind, value, trace):
        self._book._now = self._held.moment
        self._held = self._held.before


class Book:
    """The orders that rest, each by its number: how many came before it."""

    def __init__(self, rule):
        if not is_rule(rule):
            raise NotUsable("rule", -1)
        self._rule = rule
        self._now = Moment(False, False, 0, {})

    @property
    def rule(self):
        return self._rule

    @property
    def is_closed(self):
        return self._now.closed

    @property
    def came(self):
        return self._now.many

    def order(self, side, price, size):
        check_coming(side, price, size)
        fills = first_taking(self._rule, self._takable(), side, price, size)
        self._let_come(side, price, size, fills)
        return fills

    def order_told(self, side, price, size, fills):
        check_coming(side, price, size)
        if not isinstance(fills, tuple):
            raise NotUsable("fills", 0)
        fault = taking_fault(self._rule, self._takable(), (side, price, size), fills)
        if fault is not None:
            raise NotUsable("fills", fault)
        self._let_come(side, price, size, fills)
        return fills

    def cancel(self, n):
        if n not in self:
            raise UnknownOrder(n)
        orders = {k: self._now.orders[k] for k in self._now.orders if k != n}
        self._now = Moment(self._now.closed, self._now.once_closed, self._now.many, orders)

    def close(self):
        if self._now.many > 0 or self._now.once_closed:
            raise NotUsable("closed", -1)
        self._now = Moment(True, True, 0, {})

    def call(self):
        self._check_closed()
        price = least_call_price(self._now.orders)
        fills = first_call_fills(self._rule, self._now.orders, price)
        self._end_closed(fills)
        return price, fills

    def call_told(self, price, fills):
        self._check_closed()
        if not is_call_price(self._now.orders, price):
            raise NotUsable("price", -1)
        if not are_call_fills(self._rule, self._now.orders, price, fills):
            raise NotUsable("fills", -1)
        self._end_closed(fills)

    def __contains__(self, n):
        return is_number(n) and n in self._now.orders

    def __len__(self):
        return len(self._now.orders)

    def __iter__(self):
        return iter(self._now.orders)

    def resting(self):
        orders = self._now.orders
        rows = [(n, side, price, rest) for n, (side, price, rest) in orders.items()]
        yield from rows

    def rest(self, n):
        if not is_number(n) or n >= self._now.many:
            raise UnknownOrder(n)
        return self._now.orders[n][2] if n in self._now.orders else 0

    def best(self, side):
        return best_price(self._now.orders, side)

    def depth(self, side):
        orders = self._now.orders
        sums = {}
        for one, price, rest in orders.values():
            if one == side:
                sums[price] = sums.get(price, 0) + rest
        pairs = sorted(list(sums.items()))
        return tuple(pairs[::-1] if side == "buy" else pairs)

    def queue(self, side, price):
        # By kind first, since True equals 1.
        return tuple(queue_at(self._rule, self._now.orders, side, price)) if is_integer(price) else ()

    def __eq__(self, other):
        return isinstance(other, Book) and self._rule == other._rule and is_same(self._now, other._now)

    def copy(self):
        twin = Book(self._rule)
        twin._now = self._now
        return twin

    def trial(self):
        return Trial(self)

    def _takable(self):
        """The orders from which one that comes can take: none in the closed part."""
        return {} if self._now.closed else self._now.orders

    def _let_come(self, side, price, size, fills):
        orders = orders_behind(self._now.orders, [fill[1:] for fill in fills])
        left = size - lots(fills)
        if left > 0:
            orders = {**orders, self._now.many: (side, price, left)}
        self._now = Moment(self._now.closed, self._now.once_closed, self._now.many + 1, orders)

    def _check_closed(self):
        if not self._now.closed:
            raise NotUsable("open", -1)

    def _end_closed(self, fills):
        orders = orders_behind(self._now.orders, [(size, n) for n, size in fills])
        self._now = Moment(False, True, self._now.many, orders)


def is_same(moment, other):
    """Whether two moments are alike; whether the books were closed before does not count."""
    return moment.closed == other.closed and moment.many == other.many and moment.orders == other.orders


def check_coming(side, price, size):
    if not is_side(side):
        raise NotUsable("side", -1)
    if not is_positive(price):
        raise NotUsable("price", -1)
    if not is_positive(size):
        raise NotUsable("size", -1)


def orders_behind(orders, parts):
    """What rests when the orders were filled: parts are pairs (size, n)."""
    behind = orders
    for size, n in parts:
        behind = less_fill(behind, size, n)
    return behind
