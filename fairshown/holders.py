"""Who holds a bar of a record, and which receipts it is made of."""

from fairshown.bars import bars_at, bars_of, is_bar
from fairshown.errors import NotUsable
from fairshown.groups import is_shown_by, least_of
from fairshown.kinds import is_number

# The bars whose j is an order of the record, and those whose row t is an order that its member has to show.
WITH_ORDER_J = ("ahead", "crossed", "short")
WITH_ORDER_T = ("side", "first")


def owners_of(record, bar):
    check_bar(record, bar)
    return bar_owners(record, bar)


def check_bar(record, thing):
    if not is_bar(record, thing):
        raise NotUsable("bar", -1)


def bar_owners(record, bar):
    """The owners of a bar of the record."""
    word, t, _, k, j = bar
    orders = [k]
    if word in WITH_ORDER_J:
        orders.append(j)
    if word in WITH_ORDER_T:
        orders.append(t)
    return tuple(sorted({record[1][n][1] for n in orders}))


def receipts_of(record, bar):
    check_bar(record, bar)
    word, t, _, k, j = bar
    # By "worse" j is no row, but one of the fills.
    rows = [t, k, j] if word in WITH_ORDER_J or word == "front" else [t, k]
    return tuple(sorted(set(rows)))


def breached_rows(record):
    return tuple(sorted({bar[1] for bar in bars_of(record)}))


def holders_at(record, t):
    if not is_number(t) or t >= len(record[1]):
        raise NotUsable("row", -1)
    groups = sorted({bar_owners(record, bar) for bar in bars_at(record, t)})
    return tuple(least_of(groups))


def nobody_shows(record, members):
    # The members are looked at first, since an unknown one is an error also if there is no bar.
    return not is_shown_by(record, members) and bars_of(record) != ()
