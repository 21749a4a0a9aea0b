"""What a record tells of its orders, its prints, and of what some members see of it."""

from fairshown.errors import NotUsable, UnknownMember, UnknownOrder
from fairshown.kinds import is_number, is_rule
from fairshown.places import is_closed_before, lots, rests_at, row_fills


def check_order(record, n):
    """UnknownOrder unless any value n names an order of the record."""
    rows = record[1]
    if not is_number(n) or n >= len(rows) or rows[n][0] != "order":
        raise UnknownOrder(n)


def check_place(record, t, i):
    """NotUsable unless any values t and i make a place of the record."""
    rows = record[1]
    if not is_number(t) or t > len(rows) or not is_number(i):
        raise NotUsable("place", -1)
    if i > 0 and (t == len(rows) or i >= len(row_fills(rows[t]))):
        raise NotUsable("place", -1)


def members_of(record):
    return tuple(sorted({row[1] for row in record[1] if row[0] == "order"}))


def orders_of(record):
    return tuple([n for n, row in enumerate(record[1]) if row[0] == "order"])


def order_at(record, n):
    check_order(record, n)
    return record[1][n][1:5]


def rest_at(record, n, t, i=0):
    check_order(record, n)
    check_place(record, t, i)
    return record[1][n][4] - traded_before(record[1], n, t, i)


def traded_before(rows, n, t, i):
    """How many lots order n traded before the place (t, i)."""
    own = rows[n][5][:i] if n == t else rows[n][5]
    fills = [fill for row in rows[:t] for fill in row_fills(row)]
    fills.extend([fill for row in rows[t:t + 1] for fill in row_fills(row)[:i]])
    pairs = [pair for row in rows[:t] if row[0] == "call" for pair in row[2]]
    hits = lots([fill for fill in fills if fill[2] == n]) + lots([pair for pair in pairs if pair[0] == n])
    return hits + lots(own) if n <= t else hits


def open_at(record, t, i=0):
    check_place(record, t, i)
    return tuple(sorted(list(rests_at(record[1], t, i))))


def is_closed_at(record, t):
    check_place(record, t, 0)
    return is_closed_before(record[1], t)


def prints_of(record):
    rows = record[1]
    return tuple([(t, i, fill[0], fill[1]) for t, row in enumerate(rows) for i, fill in enumerate(row_fills(row))])


def traded(record, n):
    check_order(record, n)
    return traded_before(record[1], n, len(record[1]), 0)


def seen(record, members):
    there = members_of(record)
    for member in members:
        if member not in there:
            raise UnknownMember(member)
    rule, rows = record
    own = [n for n in orders_of(record) if rows[n][1] in members]
    return rule, tuple([row_seen(row, t, own) for t, row in enumerate(rows)])


def row_seen(row, t, own):
    """What is seen of row t by the members whose orders are own."""
    if row[0] == "cancel":
        return row if row[1] in own else ("prints", ())
    if row[0] == "call":
        return "call", row[1], tuple([pair for pair in row[2] if pair[0] in own])
    if row[0] == "closed":
        return row
    fills = tuple([(fill[0], fill[1], fill[2] if fill[2] in own else None) for fill in row_fills(row)])
    return row[:5] + (fills,) if t in own else ("prints", fills)


def with_rule(record, rule):
    if not is_rule(rule):
        raise NotUsable("rule", -1)
    return rule, record[1]


def cut(record, t):
    rule, rows = record
    if not is_number(t) or t > len(rows):
        raise NotUsable("row", -1)
    return rule, rows[:t]
