"""What the tests share: a book of their own, bars found by trying all, and records and days made by a fixed seed.

Nothing here imports the package: it says once more, in another way, what the document says.
"""

import random
import unittest

RULES = ("late", "price", "time")
MEMBERS = ("ann", "bob", "cy")
NAMES = ("ann", "bob", "cy", "dan", "eve", "flo")
PRICES = (9, 10, 11)

ROWS = (
    ("order", "ann", "buy", 10, 3, ()),
    ("order", "bob", "buy", 10, 2, ()),
    ("prints", ((10, 1, None), (10, 1, 0))),
    ("prints", ((10, 1, None),)),
)
RECORD = ("time", ROWS)

# Values of every kind that the document calls "any value".
ANY_VALUES = (
    0, 1, -1, 2, 10 ** 59, -(10 ** 59), True, False, None, "", "a", "ann", "Ann", "abcdefgh", "abcdefghi", "an n",
    "ann\n", "buy", "sell", "Buy", "buys", "time", "late", "price", "prices", "open", "1", "-", "order", "closed",
    (), [], (1,), [1], ((),), ("closed",), ["closed"], ("closed", 1), (10, 1, None), [10, 1, None], (("ann",), []),
    ("cancel", 0), ("prints", ()), (((((1,),),),),),
)


def order(member, side, price, size, *fills):
    return "order", member, side, price, size, fills


def prints(*fills):
    return "prints", fills


def own_fills(row):
    return {"order": lambda: row[5], "prints": lambda: row[1]}.get(row[0], tuple)()


def opposite(side):
    return {"buy": "sell", "sell": "buy"}[side]


def crosses(side, price, other_price):
    """Whether an order of this side and price can trade with one of the other side at the other price."""
    return price >= other_price if side == "buy" else price <= other_price


# ---- records, asked place by place -----------------------------------------------------------------------------


def orders_in(rows):
    return [n for n, row in enumerate(rows) if row[0] == "order"]


def rest_of(rows, n, t, i=0):
    """The size of order n less all that it traded before the place (t, i)."""
    rest = rows[n][4]
    for s, row in enumerate(rows):
        for e, (_, size, k) in enumerate(own_fills(row)):
            if (s, e) < (t, i) and (s == n or k == n):
                rest -= size
        if row[0] == "call" and s < t:
            rest -= sum(size for k, size in row[2] if k == n)
    return rest


def is_open(rows, n, t, i=0):
    gone = ("cancel", n) in rows[:t]
    return rows[n][0] == "order" and n < t and not gone and rest_of(rows, n, t, i) > 0


def open_in(rows, t, i=0):
    return [n for n in orders_in(rows) if is_open(rows, n, t, i)]


def closed_before(rows, t):
    return ("closed",) in rows[:t] and all(row[0] != "call" for row in rows[:t])


def took_and_rested(rows, n):
    return rows[n][5] != () and rest_of(rows, n, n + 1) > 0


def front_of(record, n, t, i):
    """The row since which order n is in front at the place, or None."""
    rule, rows = record
    if rule != "time" or not is_open(rows, n, t, i):
        return None
    since = []
    for s, row in enumerate(rows):
        if any(k == n and (s, e) < (t, i) for e, (_, _, k) in enumerate(own_fills(row))):
            since.append(s)
        if row[0] == "call" and s < t and n in [k for k, _ in row[2]]:
            since.append(s)
    if took_and_rested(rows, n):
        since.append(n)
    return min(since, default=None)


def goes_first(rule, k, j):
    return {"time": k < j, "late": k > j, "price": False}[rule]


def better_than(rows, n, x):
    """Whether order n can be taken at a price that is better than x for who takes it."""
    return rows[n][3] > x if rows[n][2] == "buy" else rows[n][3] < x


def found_bars(record):
    """All bars of a record, each word by its own search."""
    rows = record[1]
    bars = []
    for t, row in enumerate(rows):
        for i, fill in enumerate(own_fills(row)):
            bars += found_at_fill(record, t, i, fill)
            if row[0] == "order":
                bars += found_at_taking(record, t, i, fill)
        bars += found_behind(record, t)
        if row[0] == "call":
            bars += found_at_call(record, t)
    return tuple(sorted(set(bars)))


def found_at_fill(record, t, i, fill):
    rule, rows = record
    x, _, n = fill
    own_side = rows[t][2] if rows[t][0] == "order" else None
    bars = []
    for k in open_in(rows, t, i):
        if k == n:
            continue
        if better_than(rows, k, x):
            bars.append(("through", t, i, k, None))
        if rows[k][3] != x:
            continue
        if rows[k][2] == own_side:
            bars.append(("side", t, i, k, None))
        elif n is None and front_of(record, k, t, i) is not None:
            bars.append(("front", t, i, k, front_of(record, k, t, i)))
        elif n is not None and rows[n][2] == rows[k][2] and goes_first(rule, k, n):
            bars.append(("ahead", t, i, k, n))
    return bars


def found_at_taking(record, t, i, fill):
    rule, rows = record
    x, _, n = fill
    bars = []
    for j in range(i):
        worse = rows[t][5][j][0] > x if rows[t][2] == "buy" else rows[t][5][j][0] < x
        if worse:
            bars.append(("worse", t, i, t, j))
    if n is not None and rest_of(rows, t, t, i + 1) > 0 and rest_of(rows, n, t, i + 1) > 0:
        bars.append(("short", t, i, t, n))
    if rule == "late" and n is None:
        for _, _, k in rows[t][5][:i]:
            used = k is not None and rows[k][3] == x and rest_of(rows, k, t, i) == 0
            if used and took_and_rested(rows, k):
                bars.append(("first", t, i, k, None))
    return bars


def found_behind(record, t):
    rows = record[1]
    if closed_before(rows, t + 1):
        return []
    there = open_in(rows, t + 1)
    return [("crossed", t, 0, k, j) for k in there for j in there
            if rows[k][2] == "buy" and rows[j][2] == "sell" and rows[k][3] >= rows[j][3]]


def found_at_call(record, t):
    rule, rows = record
    x, pairs = rows[t][1:]
    bars = []
    for k in open_in(rows, t) if x is not None else []:
        if rest_of(rows, k, t + 1) == 0:
            continue
        if better_than(rows, k, x):
            bars.append(("through", t, 0, k, None))
        for j, _ in pairs:
            if (rows[j][2], rows[j][3], x) == (rows[k][2], rows[k][3], rows[k][3]) and goes_first(rule, k, j):
                bars.append(("ahead", t, 0, k, j))
    return bars


def first_fault(record):
    """What bars a value of the right shape from being a record: a pair (word, at), or else the number of rows."""
    rows = record[1]
    for t, row in enumerate(rows):
        closed = closed_before(rows, t)
        if row[0] == "closed" and t > 0 or row[0] == "call" and not closed or closed and own_fills(row):
            return "closed", t
        if row[0] == "cancel" and row[1] not in open_in(rows[:t], t):
            return "open", t
        if row[0] == "call":
            for i, (n, size) in enumerate(row[2]):
                words = [("open", n not in open_in(rows[:t], t))]
                if n in open_in(rows[:t], t):
                    words += [("price", not crosses(rows[n][2], rows[n][3], row[1])),
                              ("size", size > rest_of(rows, n, t))]
                for word, applies in words:
                    if applies:
                        return word, (t, i)
        for i in range(len(own_fills(row))):
            word = fill_word(rows, t, i)
            if word:
                return word, (t, i)
    return len(rows)


def fill_word(rows, t, i):
    row = rows[t]
    price, size, n = own_fills(row)[i]
    if n is not None:
        if n not in open_in(rows[:t + 1], t, i):
            return "open"
        if row[0] == "order" and rows[n][2] == row[2]:
            return "side"
        if rows[n][3] != price:
            return "price"
    if row[0] == "order" and not crosses(row[2], row[3], price):
        return "price"
    if n is not None and size > rest_of(rows, n, t, i):
        return "size"
    if row[0] == "order" and size > rest_of(rows, t, t, i):
        return "size"
    return None


def is_answer(record, row):
    """Whether the row makes an explained record of one that is explained."""
    rule, rows = record
    longer = rule, rows + (row,)
    return not found_bars(record) and first_fault(longer) == len(rows) + 1 and not found_bars(longer)


def seen_by(record, members):
    """What the members see, as the definition says it."""
    rule, rows = record
    theirs = [n for n in orders_in(rows) if rows[n][1] in members]

    def fills_seen(fills):
        return tuple((x, size, n if n in theirs else None) for x, size, n in fills)

    def row_seen(n, row):
        if row[0] == "order" and n not in theirs or row[0] == "prints":
            return "prints", fills_seen(own_fills(row))
        if row[0] == "order":
            return row[:5] + (fills_seen(row[5]),)
        if row[0] == "cancel" and row[1] not in theirs:
            return "prints", ()
        if row[0] == "call":
            return "call", row[1], tuple(pair for pair in row[2] if pair[0] in theirs)
        return row

    return rule, tuple(row_seen(n, row) for n, row in enumerate(rows))


def groups_in(rows):
    """All sets of members."""
    names = sorted({rows[n][1] for n in orders_in(rows)})
    return sorted(tuple(name for b, name in enumerate(names) if bits >> b & 1) for bits in range(1 << len(names)))


# ---- a book, and days that are led through it --------------------------------------------------------------------


class DayError(AssertionError):
    """A day is not by the rule."""


def must(holds, told):
    if not holds:
        raise DayError(told)


class OwnBook:
    """A book that keeps its rule and can only be told trades that the rule allows."""

    def __init__(self, rule):
        self.rule = rule
        self.resting = []
        self.closed = False
        # What rests, in the order in which it came: as each order comes, and before the acts of each step.
        self.as_it_came = {}
        self.before_step = []

    def twin(self):
        """A book with the same orders, that forgets how they came."""
        twin = OwnBook(self.rule)
        twin.resting = [dict(order) for order in self.resting]
        twin.closed = self.closed
        return twin

    def find(self, name):
        return next((order for order in self.resting if order["name"] == name), None)

    def standing(self):
        return [(one["name"], one["member"], one["side"], one["price"], one["rest"]) for one in self.resting]

    def can_be_next(self, side, price):
        """The resting orders that an order of this side and price may take from next."""
        there = [order for order in self.resting if order["side"] != side and crosses(side, price, order["price"])]
        if not there:
            return []
        best = (min if side == "buy" else max)(order["price"] for order in there)
        there = [order for order in there if order["price"] == best]
        return {"time": there[:1], "late": there[-1:], "price": there}[self.rule]

    def fill(self, order, size):
        order["rest"] -= size
        self.resting = [one for one in self.resting if one["rest"] > 0]

    def come(self, name, member, side, price, size, fills):
        """An order comes and takes as it is told, or, if fills is a function, as this chooses."""
        self.as_it_came[name] = self.standing()
        left = size
        told = []
        while left and not self.closed and (there := self.can_be_next(side, price)):
            if callable(fills):
                order = fills(there)
            else:
                must(len(told) < len(fills), ("a fill is missing", name))
                order = self.find(fills[len(told)][2])
                must(order in there, ("not its turn", name, fills[len(told)]))
            lots = min(left, order["rest"])
            told.append((order["price"], lots, order["name"]))
            left -= lots
            self.fill(order, lots)
        if not callable(fills):
            must(tuple(told) == fills, ("fills", name, told, fills))
        if left:
            self.resting.append({"name": name, "member": member, "side": side, "price": price, "rest": left})
        return tuple(told)

    def volume(self, price):
        """How much buys at the price or above, and sells at it or below, have."""
        return [sum(order["rest"] for order in self.resting
                    if order["side"] == side and crosses(side, order["price"], price)) for side in ("buy", "sell")]

    def better(self, side, price):
        return [order for order in self.resting if order["side"] == side and order["price"] != price
                and crosses(side, order["price"], price)]

    def most_traded(self):
        return max((min(self.volume(order["price"])) for order in self.resting), default=0)

    def can_be_call_price(self, price):
        """Whether a call can have this price: None if nothing can be traded, otherwise a number."""
        most = self.most_traded()
        if most == 0 or price is None:
            return most == 0 and price is None
        better = [sum(order["rest"] for order in self.better(side, price)) for side in ("buy", "sell")]
        return price >= 1 and min(self.volume(price)) == most and max(better) <= most

    def call_prices(self):
        if self.most_traded() == 0:
            return [None]
        prices = {order["price"] for order in self.resting}
        return [price for price in range(min(prices), max(prices) + 1) if self.can_be_call_price(price)]

    def call_share(self, side, price, chosen):
        """What the orders of a side are filled at a call, where chosen orders those at the price itself."""
        left = min(self.volume(price))
        pairs = []
        at_price = [order for order in self.resting if order["side"] == side and order["price"] == price]
        for order in self.better(side, price) + chosen(at_price):
            lots = min(left, order["rest"])
            left -= lots
            if lots:
                pairs.append((order["name"], lots))
        must(left == 0, "not all is traded")
        return pairs

    def call_told(self, price, pairs):
        must(self.closed, "a call of an open book")
        must(self.can_be_call_price(price), ("price", price))
        self.closed = False
        if price is None:
            must(pairs == (), "fills without a price")
            return
        told = dict(pairs)
        must(list(pairs) == sorted(told.items()), "not ascending")
        must(all(self.find(name) is not None for name in told), "a fill of nobody")
        for side in ("buy", "sell"):
            self.must_share(side, price, {name: told[name] for name in told if self.find(name)["side"] == side})
        for name, size in pairs:
            self.fill(self.find(name), size)

    def must_share(self, side, price, told):
        must(sum(told.values()) == min(self.volume(price)), ("not what can be traded", side))
        if self.rule == "price":
            must(all(told.get(order["name"]) == order["rest"] for order in self.better(side, price)), "a better one")
            must(all(0 < told[name] <= self.find(name)["rest"] for name in told), "more than its rest")
            must(all(crosses(side, self.find(name)["price"], price) for name in told), "not as good as the price")
        else:
            turned = {"time": list, "late": lambda there: there[::-1]}[self.rule]
            must(dict(self.call_share(side, price, turned)) == told, "not by the rule")


def lead_act(book, name, act):
    if act[0] == "order":
        book.come(name, *act[1:])
    elif act[0] == "cancel":
        must(book.find(act[1]) is not None, ("cancel", name))
        book.resting = [order for order in book.resting if order["name"] != act[1]]
    elif act[0] == "closed":
        must(name == (0, 0) and not book.closed, ("closed", name))
        book.closed = True
    else:
        book.call_told(*act[1:])


def is_strangers(day, act):
    steps = day[1]
    if act[0] == "cancel":
        s, a = act[1]
        return steps[s][a][1] is None
    return act[0] == "order" and act[1] is None


def must_be_step(day, s):
    steps = day[1]
    for a, act in enumerate(steps[s][:-1]):
        must(is_strangers(day, act), ("a member's act is not the last one", (s, a)))
    if steps[s] and not is_strangers(day, steps[s][-1]):
        must(all(own_fills(act) == () for act in steps[s][:-1]), ("fills before a member's act", s))


def led(day):
    """The book behind all acts of a day, each of which has to be by the rule."""
    rule, steps = day
    book = OwnBook(rule)
    for s, acts in enumerate(steps):
        must_be_step(day, s)
        book.before_step.append(book.standing())
        for a, act in enumerate(acts):
            lead_act(book, (s, a), act)
    return book


def record_told(day):
    """The record of a day; the day has to be by the rule, act by act."""
    led(day)
    rule, steps = day

    def name_seen(name):
        s, a = name
        return None if steps[s][a][1] is None else s

    def fills_seen(acts):
        return tuple((x, size, name_seen(name)) for act in acts for x, size, name in own_fills(act))

    def row_of(acts):
        if not acts or is_strangers(day, acts[-1]):
            return "prints", fills_seen(acts)
        last = acts[-1]
        if last[0] == "order":
            return last[:5] + (fills_seen([last]),)
        if last[0] == "cancel":
            return "cancel", name_seen(last[1])
        if last[0] == "call":
            pairs = [(name_seen(name), size) for name, size in last[2]]
            return "call", last[1], tuple(sorted(pair for pair in pairs if pair[0] is not None))
        return last

    return rule, tuple(row_of(acts) for acts in steps)


def told_fault(own, side, price, size, fills):
    """The index of the first fill that the book does not let an order have, None if it may have all of them.

    It is the number of fills if one is missing, and 0 if they are no tuple. The book is changed.
    """
    if not isinstance(fills, tuple):
        return 0
    left = size
    for k, fill in enumerate(fills):
        there = [] if left == 0 or own.closed else own.can_be_next(side, price)
        right = [repr((order["price"], min(left, order["rest"]), order["name"])) for order in there]
        if repr(fill) not in right:
            return k
        left -= fill[1]
        own.fill(own.find(fill[2]), fill[1])
    return len(fills) if left and not own.closed and own.can_be_next(side, price) else None


def is_whole(thing, least=None):
    return type(thing) is int and (least is None or thing >= least)


def is_called_so(thing):
    return type(thing) is tuple and len(thing) == 2 and all(is_whole(n, 0) for n in thing)


def is_act(thing):
    if type(thing) is not tuple:
        return False
    if thing[:1] == ("order",) and len(thing) == 6:
        kinds = type(thing[1]) in (str, type(None)), type(thing[2]) is str, is_whole(thing[3]), is_whole(thing[4])
        return all(kinds) and type(thing[5]) is tuple and all(
            type(fill) is tuple and len(fill) == 3 and is_whole(fill[0]) and is_whole(fill[1])
            and is_called_so(fill[2]) for fill in thing[5])
    if thing[:1] == ("call",) and len(thing) == 3:
        return (thing[1] is None or is_whole(thing[1])) and type(thing[2]) is tuple and all(
            type(pair) is tuple and len(pair) == 2 and is_called_so(pair[0]) and is_whole(pair[1])
            for pair in thing[2])
    return thing == ("closed",) or thing[:1] == ("cancel",) and len(thing) == 2 and is_called_so(thing[1])


def day_fault(thing):
    """What bars a value from being a day: a pair (word, at), or else the number of its steps."""
    if type(thing) is not tuple or len(thing) != 2 or type(thing[0]) is not str or type(thing[1]) is not tuple:
        return "shape", -1
    rule, steps = thing
    if not all(type(acts) is tuple and all(is_act(act) for act in acts) for acts in steps):
        return "shape", -1
    if rule not in RULES:
        return "rule", -1
    book = OwnBook(rule)
    for s, acts in enumerate(steps):
        for a, act in enumerate(acts):
            fault = act_fault(book, steps, s, a)
            if fault:
                return fault
    return len(steps)


def act_fault(book, steps, s, a):
    act, name = steps[s][a], (s, a)
    ours = act[0] in ("closed", "call") or act[0] == "order" and act[1] is not None
    if act[0] == "cancel" and act[1] < name and act[1] in book.as_it_came:
        ours = steps[act[1][0]][act[1][1]][1] is not None
    alone = act is steps[s][-1] and a == len(steps[s]) - 1 and not any(own_fills(one) for one in steps[s][:a])
    if act[0] == "closed" and name != (0, 0) or act[0] == "call" and not book.closed or ours and not alone:
        return "place", name
    if act[0] == "order":
        member, side, price, size, fills = act[1:]
        letters = member is None or 1 <= len(member) <= 8 and member.isascii() and member.isalpha() and member.islower()
        if not letters or side not in ("buy", "sell") or price < 1 or size < 1:
            return "order", name
        k = told_fault(book.twin(), side, price, size, fills)
        if k is not None:
            return "fills", (s, a, k)
        book.come(name, member, side, price, size, fills)
    elif act[0] == "cancel":
        if book.find(act[1]) is None:
            return "cancel", name
        lead_act(book, name, act)
    elif act[0] == "call":
        if not book.can_be_call_price(act[1]):
            return "price", name
        try:
            lead_act(book, name, act)
        except DayError:
            return "fills", name
    else:
        book.closed = True
    return None


# ---- papers, and who holds a bar ---------------------------------------------------------------------------------


def explain_answer(record, thing):
    """What the checker of explain papers has to return, or the fields of its error."""
    if type(thing) is not tuple or len(thing) != 2 or thing[0] not in ("day", "bar"):
        return "form", -1
    word, what = thing
    if word == "bar":
        return False if repr(what) in [repr(bar) for bar in found_bars(record)] else ("bar", -1)
    fault = day_fault(what)
    if not isinstance(fault, int):
        return fault
    told = record_told(what)
    if told[0] != record[0]:
        return "by", -1
    for t in range(max(len(told[1]), len(record[1]))):
        if told[1][t:t + 1] != record[1][t:t + 1]:
            return "row", t
    return True


def owners_in(rows, bar):
    """The members who have to lay their receipts together to show a bar."""
    word, t, _, k, j = bar
    named = {"ahead": [k, j], "crossed": [k, j], "short": [k, j], "side": [k, t], "first": [k, t]}
    return {rows[n][1] for n in named.get(word, [k])}


def is_held(record, group, t):
    """Whether a group has all owners of some bar of row t."""
    return any(owners_in(record[1], bar) <= set(group) for bar in found_bars(record) if bar[1] == t)


def breached_in(record):
    return sorted({bar[1] for bar in found_bars(record)})


def least_of(groups):
    """Those of some groups that contain no other one of them."""
    return tuple(sorted(group for group in groups if not any(set(other) < set(group) for other in groups)))


def greatest_of(groups):
    return tuple(sorted(group for group in groups if not any(set(other) > set(group) for other in groups)))


# ---- made records and days ---------------------------------------------------------------------------------------


def made_day(rng, rule, many, begins_closed):
    """A day of an exchange that keeps its rule, with members and strangers."""
    book = OwnBook(rule)
    steps = []
    for s in range(many):
        acts = []
        if s == 0 and begins_closed:
            acts.append(("closed",))
            book.closed = True
        else:
            made_step(rng, book, steps, s, acts)
        steps.append(tuple(acts))
    return rule, tuple(steps)


def made_step(rng, book, steps, s, acts):
    for _ in range(rng.choice((0, 0, 1, 1, 2))):
        acts.append(made_order(rng, book, (s, len(acts)), None))
    if any(own_fills(act) for act in acts) or rng.random() < 0.15:
        return
    if book.closed and rng.random() < 0.2:
        acts.append(made_call(rng, book))
    elif book.resting and rng.random() < 0.15:
        name = rng.choice(book.resting)["name"]
        book.resting = [order for order in book.resting if order["name"] != name]
        acts.append(("cancel", name))
    else:
        acts.append(made_order(rng, book, (s, len(acts)), rng.choice(MEMBERS)))


def made_order(rng, book, name, member):
    side, price, size = rng.choice(("buy", "sell")), rng.choice(PRICES), rng.randint(1, 4)
    return ("order", member, side, price, size, book.come(name, member, side, price, size, rng.choice))


def made_call(rng, book):
    price = rng.choice(book.call_prices())
    pairs = []
    for side in ("buy", "sell") if price is not None else ():
        mixed = {"time": list, "late": lambda there: there[::-1],
                 "price": lambda there: rng.sample(there, len(there))}[book.rule]
        pairs += book.call_share(side, price, mixed)
    for name, size in pairs:
        book.fill(book.find(name), size)
    book.closed = False
    return "call", price, tuple(sorted(pairs))


def made_fill(rng, rows, prices, side=None):
    """A fill as it may stand in a record, with the price of the order that it names."""
    there = [n for n in open_in(rows, len(rows)) if side is None or rows[n][2] != side]
    if there and rng.random() < 0.5:
        n = rng.choice(there)
        return rows[n][3], rng.randint(1, rest_of(rows, n, len(rows))), n
    return rng.choice(prices), rng.randint(1, 2), None


def made_row(rng, rows, closed, prices=PRICES):
    if closed and rng.random() < 0.15:
        return made_call_row(rng, rows, prices)
    there = open_in(rows, len(rows))
    if there and rng.random() < 0.1:
        return "cancel", rng.choice(there)
    if rng.random() < 0.5:
        fills = () if closed else tuple(made_fill(rng, rows, prices) for _ in range(rng.choice((0, 1, 1, 2, 3))))
        return "prints", fills
    side, price, size = rng.choice(("buy", "sell")), rng.choice(prices), rng.randint(1, 5)
    many = 0 if closed else rng.choice((0, 0, 0, 1, 1, 2, 3))
    fills = tuple(made_fill(rng, rows, prices, side) for _ in range(many))
    return "order", rng.choice(MEMBERS), side, price, size, fills


def made_call_row(rng, rows, prices):
    price = rng.choice((None,) + prices)
    there = [n for n in open_in(rows, len(rows)) if price is not None and crosses(rows[n][2], rows[n][3], price)]
    chosen = [n for n in there if rng.random() < 0.7]
    return "call", price, tuple((n, rng.randint(1, rest_of(rows, n, len(rows)))) for n in chosen)


def can_stand(rows, row):
    """Whether the fills of a made row leave no rest below 0 and keep its limit."""
    after = rows + (row,)
    if row[0] == "order":
        kept = all(crosses(row[2], row[3], x) for x, _, _ in row[5])
        if not kept or rest_of(after, len(rows), len(after)) < 0:
            return False
    return all(rest_of(after, n, len(after)) >= 0 for n in orders_in(rows))


def made_record(rng, rule, many, begins_closed, fair, prices):
    """A record by the form; with the chance fair a row is passed over if it brings a bar."""
    rows = (("closed",),) if begins_closed else ()
    while len(rows) < many:
        row = made_row(rng, rows, closed_before(rows, len(rows)), prices)
        if not can_stand(rows, row):
            continue
        after = (rule, rows + (row,))
        if rng.random() < fair and any(bar[1] == len(rows) for bar in found_bars(after)):
            continue
        rows += (row,)
    return rule, rows


def with_names(rng, record, names):
    """The record with other members: each order is of one of these names."""
    rule, rows = record
    return rule, tuple(row[:1] + (rng.choice(names),) + row[2:] if row[0] == "order" else row for row in rows)


def made_records(seed, count, many=8, fair=0.9, prices=PRICES):
    """Made records by each rule, some of them with a closed part."""
    rng = random.Random(seed)
    for k in range(count):
        yield made_record(rng, RULES[k % 3], rng.randint(1, many), k % 4 == 0, fair, prices)


def called_records(seed, count, prices=PRICES):
    """Made records with a closed part and a call, by each rule, with bars and without."""
    rng = random.Random(seed)
    for k in range(count):
        rows = (("closed",),)
        for _ in range(rng.randint(1, 4)):
            rows += (order(rng.choice(MEMBERS), rng.choice(("buy", "sell")), rng.choice(prices), rng.randint(1, 3)),)
        rows += (made_call_row(rng, rows, prices),)
        for _ in range(rng.randint(0, 3)):
            row = made_row(rng, rows, False, prices)
            rows += (row,) if can_stand(rows, row) else (prints(),)
        yield RULES[k % 3], rows


def used_up_first(rng):
    """A record by "late" with the bar "first", which chance hardly ever makes."""
    took, taken, guest = rng.randint(1, 2), rng.randint(1, 3), rng.randint(1, 2)
    rows = (prints(),) * rng.randint(0, 2)
    n = len(rows)
    rows += (order("ann", "buy", 10, took + taken, (9, took, None)), ("prints", ()))[:rng.randint(1, 2)]
    rows += (order("bob", "sell", rng.choice((9, 10)), taken + guest, (10, taken, n), (10, guest, None)),)
    return "late", rows + (order("cy", "buy", rng.choice((8, 11)), 1),)


def barred_records(seed, count):
    """Made records with one to five members, most of them with bars at several rows."""
    rng = random.Random(seed)
    for fair, prices, many in ((0.0, (9, 10, 11), 16), (0.4, (10, 11), 12), (0.7, (9, 10), 8)):
        for record in made_records(seed, count // 4, many=many, fair=fair, prices=prices):
            yield with_names(rng, record, NAMES[:rng.randint(1, 5)])
    for _ in range(count // 4):
        yield with_names(rng, used_up_first(rng), NAMES[:rng.randint(1, 5)])


def made_days(seed, count, many=8):
    rng = random.Random(seed)
    for k in range(count):
        yield made_day(rng, RULES[k % 3], rng.randint(1, many), k % 4 == 0)


def thirty_rows(rule):
    """An explained record of thirty rows, ten orders and five members, with all kinds of rows."""
    rows = [("closed",), ("order", "ann", "buy", 10, 4, ()), ("order", "bob", "sell", 10, 2, ()),
            ("order", "cy", "sell", 12, 5, ()), ("call", 10, ((1, 2), (2, 2)))]
    rows += [("order", "dan", "sell", 11, 6, ()), ("order", "eve", "buy", 9, 6, ())]
    rows += [("prints", ((11, 1, 5),)), ("prints", ((10, 1, 1),))] * 2
    rows += [("order", "ann", "buy", 11, 2, ((11, 2, 5),)), ("prints", ((9, 1, 6), (9, 1, 6))), ("cancel", 6)]
    rows += [("order", "bob", "buy", 8, 2, ()), ("prints", ((8, 1, 14), (11, 1, 5)))]
    rows += [("order", "cy", "sell", 13, 1, ()), ("order", "dan", "buy", 12, 9, ((11, 1, 5), (12, 5, 3)))]
    rows += [("prints", ((13, 1, None),)), ("prints", ((13, 2, None), (12, 1, 17)))] + [("prints", ())] * 4
    rows += [("prints", ((12, 1, 17),)), ("order", "eve", "sell", 14, 1, ()), ("prints", ((13, 1, 16),))]
    rows += [("cancel", 14), ("cancel", 25), ("prints", ())]
    return rule, tuple(rows)


# ---- all books of a small record --------------------------------------------------------------------------------


class SmallBooks:
    """All books that a few strangers can make of the rows of a record, one row behind the other.

    A book is a tuple of what rests, in the order in which it came: (the index of its row, or None for a stranger's,
    side, price, rest). In prints each fill is a stranger's order of its own, which takes just this.
    """

    MOST = 2
    SIZES = (1, 2)

    def __init__(self, rule, rows):
        self.rule = rule
        self.rows = rows
        self.to_strangers = [fill for row in rows for fill in own_fills(row) if fill[2] is None]
        self.prices = sorted({row[3] for row in rows if row[0] == "order"}
                             | {fill[0] for row in rows for fill in own_fills(row)})

    def is_too_great(self):
        """Whether these few strangers, or their sizes, are not enough to tell."""
        called = any(row[0] == "call" for row in self.rows)
        return called or len(self.to_strangers) > self.MOST or any(size > 2 for _, size, _ in self.to_strangers)

    def longest(self):
        """How many rows the longest beginning has that some book explains."""
        books = {()}
        for t, row in enumerate(self.rows):
            books = self.behind(self.with_strangers(books, closed_before(self.rows, t)), t, row)
            if not books:
                return t
        return len(self.rows)

    def with_strangers(self, books, closed):
        """All books behind any acts of strangers that trade nothing."""
        found, waiting = set(books), list(books)
        while waiting:
            book = waiting.pop()
            for other in self.with_one_act(book, closed):
                if other not in found:
                    found.add(other)
                    waiting.append(other)
        return found

    def with_one_act(self, book, closed):
        for k, one in enumerate(book):
            if one[0] is None:
                yield book[:k] + book[k + 1:]
        if len([one for one in book if one[0] is None]) < self.MOST:
            for side in ("buy", "sell"):
                for price in self.prices:
                    if closed or not self.next_ones(book, side, price):
                        yield from (book + ((None, side, price, size),) for size in self.SIZES)

    def next_ones(self, book, side, price):
        """The indexes in the book of what an order of this side and price may take from next."""
        there = [k for k, one in enumerate(book) if one[1] != side and crosses(side, price, one[2])]
        best = (min if side == "buy" else max)((book[k][2] for k in there), default=None)
        there = [k for k in there if book[k][2] == best]
        return {"time": there[:1], "late": there[-1:], "price": there}[self.rule]

    def less(self, book, k, size):
        n, side, price, rest = book[k]
        return book[:k] + (((n, side, price, rest - size),) if rest > size else ()) + book[k + 1:]

    def behind(self, books, t, row):
        if row[0] == "order":
            return {other for book in books for other in self.behind_order(book, t, row)}
        if row[0] == "cancel":
            return {tuple(one for one in book if one[0] != row[1]) for book in books}
        for x, size, n in own_fills(row):
            books = self.with_strangers({other for book in books for other in self.behind_print(book, x, size, n)}, False)
        return books

    def behind_print(self, book, x, size, n):
        for side in ("buy", "sell"):
            for k in self.next_ones(book, side, x):
                if (book[k][0], book[k][2]) == (n, x) and book[k][3] >= size:
                    yield self.less(book, k, size)

    def behind_order(self, book, t, row):
        side, price, size, fills = row[2:]
        if closed_before(self.rows, t):
            return [book + ((t, side, price, size),)]
        now = {(book, size)}
        for fill in fills:
            now = {(self.less(one, k, fill[1]), left - fill[1]) for one, left in now
                   for k in self.next_ones(one, side, price) if left and fill == (
                       one[k][2], min(left, one[k][3]), one[k][0])}
        whole = [(one, left) for one, left in now if left == 0 or not self.next_ones(one, side, price)]
        return [one + (((t, side, price, left),) if left else ()) for one, left in whole]


# ---- values changed in one place --------------------------------------------------------------------------------


def places(thing, path=()):
    """The ways to all parts of a nested value, the value itself included."""
    yield path
    if isinstance(thing, tuple):
        for k, part in enumerate(thing):
            yield from places(part, path + (k,))


def part_at(thing, path):
    for k in path:
        thing = thing[k]
    return thing


def changed(thing, path, part):
    """The value with another part at the end of the way."""
    if not path:
        return part
    return thing[:path[0]] + (changed(thing[path[0]], path[1:], part),) + thing[path[0] + 1:]


def other_part(rng, part):
    """Something near the part, or something quite different."""
    if rng.random() < 0.1:
        return rng.choice(ANY_VALUES)
    if part is None:
        return rng.choice((None, "ann", 9, 0))
    if isinstance(part, int):
        return rng.choice((part + 1, part - 1, 0, part + 2, None, True))
    if isinstance(part, str):
        return rng.choice(("ann", "bob", None, "buy", "sell", "time", "late", "price", "Ann", "cancel", "order"))
    if not part:
        return rng.choice((((9, 1, (0, 0)),), (order(None, "buy", 9, 1),), ("closed",), ((), ())))
    k = rng.randrange(len(part))
    return rng.choice((part[:k] + part[k + 1:], part[:k] + part[k:k + 1] + part[k:], part[::-1],
                       part[:k] + part[k + 1:] + part[k:k + 1], list(part)))


# ---- audits -----------------------------------------------------------------------------------------------------


class OwnAudit:
    """An audit of the tests' own, which keeps its events and tells everything from them again."""

    def __init__(self, rule, members):
        self.beginning = "audit", rule, members
        self.events = []

    def parts(self, many=None):
        _, rule, members = self.beginning
        rows = ()
        for word, what in self.events[:many]:
            if word == "row":
                rows += (what,)
            elif word == "rule":
                rule = what
            else:
                members = tuple(sorted(set(members) ^ {what}))
        return rule, rows, members

    def view(self, many=None):
        rule, rows, members = self.parts(many)
        return seen_by((rule, rows), members)

    def bars(self, many=None):
        return found_bars(self.view(many))

    def reason(self, event):
        """Why an event by kind is not possible, or None."""
        rule, rows, members = self.parts()
        word, what = event
        if len(self.events) == 60:
            return "full"
        if word == "row":
            words = [("long", len(rows) == 30), ("many", what[0] == "order" and len(orders_in(rows)) == 10),
                     ("row", first_fault((rule, rows + (what,))) != len(rows) + 1)]
        elif word == "join":
            words = [("there", what in members), ("many", len(members) == 5)]
        elif word == "leave":
            words = [("missing", what not in members)]
        else:
            words = [("same", what == rule)]
        return next((reason for reason, applies in words if applies), None)

    def lead(self, event):
        """The bars that an event that is possible brings."""
        before = self.bars()
        self.events.append(event)
        return tuple(bar for bar in self.bars() if bar not in before)


def made_event(rng, own):
    """An event by kind, most often a possible one."""
    rule, rows, members = own.parts()
    deed = rng.random()
    if deed < 0.65:
        return "row", made_row(rng, rows, closed_before(rows, len(rows)))
    if deed < 0.8:
        return "join", rng.choice(NAMES)
    if deed < 0.9:
        return "leave", rng.choice(members + ("zoe",))
    return "rule", rng.choice(RULES)


# ---- tests ------------------------------------------------------------------------------------------------------


class Case(unittest.TestCase):
    """A test that looks at errors with their fields, and at kinds: True is not 1."""

    def fields(self, error, fields, deed):
        with self.assertRaises(error) as caught:
            deed()
        self.assertIs(caught.exception.__class__, error)
        self.assertEqual(sorted(vars(caught.exception)), sorted(fields))
        for name, value in fields.items():
            self.same(vars(caught.exception)[name], value)

    def same(self, one, other):
        self.assertEqual(one, other)
        self.assertEqual(repr(one), repr(other))
