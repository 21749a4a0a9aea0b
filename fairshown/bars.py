"""The bars of a record: the few receipts that no book explains."""

from fairshown.errors import NotUsable
from fairshown.kinds import is_number
from fairshown.places import after_row, fill_steps, front_row, goes_before, goes_past, is_closed_before, lots
from fairshown.places import row_fills, standing_list, took


def bars_of(record):
    rows = record[1]
    standing = standing_list(rows)
    return tuple(sorted([bar for t in range(len(rows)) for bar in row_bars(record, t, standing[t])]))


def bars_at(record, t):
    rows = record[1]
    if not is_number(t) or t >= len(rows):
        raise NotUsable("row", t)
    return tuple(sorted(row_bars(record, t, standing_list(rows[:t])[t])))


def first_bar(record):
    rows = record[1]
    standing = standing_list(rows)
    for t in range(len(rows)):
        bars = row_bars(record, t, standing[t])
        if bars:
            return min(bars)
    return None


def first_row(record):
    """The least row that has a bar, or None."""
    bar = first_bar(record)
    return None if bar is None else bar[1]


def is_bar(record, thing):
    return is_bar_shape(thing) and thing in bars_of(record)


def is_bar_shape(thing):
    """Whether the value may be compared with bars: True equals 1, so it has to be kept out before."""
    if not isinstance(thing, tuple) or len(thing) != 5:
        return False
    word, t, i, k, j = thing
    return isinstance(word, str) and all([is_number(n) for n in (t, i, k)]) and (j is None or is_number(j))


def row_bars(record, t, rests):
    """The bars of row t, in no order; rests are those of the open orders before it."""
    row = record[1][t]
    return fill_bars(record, t, rests) + call_bars(record, t, rests) + crossed_bars(record, t, after_row(row, t, rests))


def fill_bars(record, t, rests):
    """The bars of the fills of row t; rests are those of the open orders before it."""
    row = record[1][t]
    steps = fill_steps(row, rests)
    bars = []
    for i in range(len(row_fills(row))):
        bars.extend([bar for k in steps[i] for bar in resting_bars(record, t, i, k)])
        if row[0] == "order":
            bars.extend(first_bars(record, t, i, steps))
            bars.extend(own_bars(row, t, i, steps))
    return bars


def resting_bars(record, t, i, k):
    """The bar of order k, open at the place, that fill i of row t has, in a list; [] without one."""
    rule, rows = record
    row = rows[t]
    x, _, n = row_fills(row)[i]
    side, price = rows[k][2:4]
    if k == n:
        return []
    if goes_past(side, price, x):
        return [("through", t, i, k, None)]
    if price != x:
        return []
    if row[0] == "order" and row[2] == side:
        return [("side", t, i, k, None)]
    if n is None:
        return front_bars(record, t, i, k)
    if rows[n][2] == side and goes_before(rule, k, n):
        return [("ahead", t, i, k, n)]
    return []


def front_bars(record, t, i, k):
    rule, rows = record
    since = front_row(rows, k, t, i) if rule == "time" else None
    return [] if since is None else [("front", t, i, k, since)]


def first_bars(record, t, i, steps):
    """By "late": the orders that this row's earlier fills used up, though nobody could stand behind them."""
    rule, rows = record
    x, _, n = row_fills(rows[t])[i]
    if rule != "late" or n is not None:
        return []
    gone = [k for k in steps[0] if k not in steps[i]]
    return [("first", t, i, k, None) for k in gone if rows[k][3] == x and took(rows[k])]


def own_bars(row, t, i, steps):
    """The bars of an order's own taking: it stopped short at a resting order, or took a worse price first."""
    x, _, n = row[5][i]
    bars = [("worse", t, i, t, j) for j in range(i) if goes_past(row[2], row[5][j][0], x)]
    if n in steps[i + 1] and lots(row[5][:i + 1]) < row[4]:
        bars.append(("short", t, i, t, n))
    return bars


def call_bars(record, t, rests):
    rule, rows = record
    row = rows[t]
    if row[0] != "call" or row[1] is None:
        return []
    x = row[1]
    filled = [pair[0] for pair in row[2] if rows[pair[0]][3] == x]
    left = after_row(row, t, rests)
    bars = [("through", t, 0, k, None) for k in left if goes_past(rows[k][2], rows[k][3], x)]
    for k in [n for n in left if rows[n][3] == x]:
        rivals = [j for j in filled if rows[j][2] == rows[k][2]]
        bars.extend([("ahead", t, 0, k, j) for j in rivals if goes_before(rule, k, j)])
    return bars


def crossed_bars(record, t, behind):
    """The pairs of open orders that cross behind row t; behind are the rests there."""
    rows = record[1]
    if is_closed_before(rows, t + 1):
        return []
    buys = [k for k in behind if rows[k][2] == "buy"]
    sells = [k for k in behind if rows[k][2] == "sell"]
    return [("crossed", t, 0, k, j) for k in buys for j in sells if rows[k][3] >= rows[j][3]]
