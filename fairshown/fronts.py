"""Which orders are in front, and how much went to strangers ahead of an order."""

from fairshown.places import front_row, rests_at, row_fills, steps_list, took
from fairshown.records import check_order, check_place, orders_of


def took_as_it_came(record, n):
    check_order(record, n)
    return took(record[1][n])


def front_since(record, n, t, i=0):
    check_order(record, n)
    check_place(record, t, i)
    rule, rows = record
    if rule != "time" or n not in rests_at(rows, t, i):
        return None
    return front_row(rows, n, t, i)


def fronts_at(record, t, i=0):
    check_place(record, t, i)
    rule, rows = record
    if rule != "time":
        return ()
    fronts = [(k, front_row(rows, k, t, i)) for k in rests_at(rows, t, i)]
    return tuple(sorted([(k, since) for k, since in fronts if since is not None]))


def went_ahead(record, n):
    check_order(record, n)
    rows = record[1]
    steps = steps_list(rows)
    return sum([row_fills(rows[t])[i][1] for t, i in stranger_fills(rows, n) if n in steps[t][i]])


def stranger_fills(rows, n):
    """The places of the fills to strangers at the price of order n, in rows that are no orders of its side."""
    side, price = rows[n][2:4]
    theirs = [t for t, row in enumerate(rows) if row[0] != "order" or row[2] != side]
    fills = [(t, i, fill) for t in theirs for i, fill in enumerate(row_fills(rows[t]))]
    return [(t, i) for t, i, fill in fills if fill[0] == price and fill[2] is None]


def stood_before(record, n):
    check_order(record, n)
    rule, rows = record
    steps = steps_list(rows)
    mates = [m for m in orders_of(record) if m <= n and rows[m][2:4] == rows[n][2:4]]
    places = [(t, i) for t, i in stranger_fills(rows, n) if t > n and is_behind(rule, rows[t], i, steps[t], mates)]
    return sum([row_fills(rows[t])[i][1] for t, i in places])


def is_behind(rule, row, i, steps, mates):
    """Whether a stranger of fill i of this row must have stood there before the last of the mates came."""
    if rule == "time":
        return any([m in steps[i] for m in mates])
    if rule == "late" and row[0] == "order":
        return any([m in steps[0] and m not in steps[i] for m in mates])
    return False
