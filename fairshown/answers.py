"""What the house can answer next without being shown."""

from fairshown.bars import fill_bars, row_bars
from fairshown.errors import NotUsable
from fairshown.explaining import is_explained
from fairshown.kinds import is_name, is_number, is_positive, is_price_set, is_row, is_side
from fairshown.places import lots, standing_list
from fairshown.recordchecker import can_stand


def can_follow(record, row):
    return is_row(row) and is_explained(record) and follows(record, row, standing_list(record[1])[-1])


def follows(record, row, rests):
    """Whether this row by form is an answer to an explained record; rests are those of the open orders behind it."""
    rule, rows = record
    longer = rows + (row,)
    return can_stand(longer, len(rows), rests) and not row_bars((rule, longer), len(rows), rests)


def can_begin(record, row, rests):
    """Whether an order row has nothing wrong in its fills, so that it or one with more fills may be an answer."""
    rule, rows = record
    longer = rows + (row,)
    return can_stand(longer, len(rows), rests) and not fill_bars((rule, longer), len(rows), rests)


def answers_to(record, member, side, price, size, prices, *, most=3):
    if not (is_name(member) and is_side(side) and is_positive(price) and is_positive(size)):
        raise NotUsable("order", -1)
    check_prices(prices)
    if not is_number(most):
        raise NotUsable("most", -1)
    if is_explained(record):
        found = fills_told(record, ("order", member, side, price, size), prices, most)
        yield from found


def check_prices(prices):
    if not is_price_set(prices):
        raise NotUsable("prices", -1)


def fills_told(record, order, prices, most):
    """All fills that make an answer of the order, which still lacks them, in ascending order."""
    rests = standing_list(record[1])[-1]
    found = []
    waiting = [()]
    while waiting:
        fills = waiting.pop()
        row = order + (fills,)
        if follows(record, row, rests):
            found.append(fills)
        if len(fills) < most and can_begin(record, row, rests):
            # Turned, so that the least of them is the next to be taken from the end.
            waiting.extend([fills + (fill,) for fill in fills_next(record, row, prices, rests)[::-1]])
    return found


def fills_next(record, row, prices, rests):
    """The fills that might come behind those of the row, ascending, where None is less than each number."""
    rows = record[1]
    fills = []
    for price in prices:
        names = [None] + [k for k in sorted(list(rests)) if rows[k][3] == price]
        fills.extend([(price, size, n) for size in range(1, row[4] - lots(row[5]) + 1) for n in names])
    return fills


def next_prints(record, prices, *, size=1):
    check_prices(prices)
    if not is_positive(size):
        raise NotUsable("size", -1)
    if not is_explained(record):
        return ()
    rests = standing_list(record[1])[-1]
    fills = [(price, size, n) for price in prices for n in [None] + sorted(list(rests))]
    return tuple([fill for fill in fills if follows(record, ("prints", (fill,)), rests)])
