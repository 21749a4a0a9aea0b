"""Whether a record is explained, and a day that explains it.

A stranger here is a tuple (s, key, side, price, size): an order that rests until the fill that it is there for. It
comes in step s, which is the step of row s. key says what it is there for: (t, i) for fill i of row t, (t, 0) and
(t, 1) for the buy and the sell of the call in row t.
"""

from fairshown.bars import bars_of, first_row
from fairshown.places import fill_steps, lots, other_side, row_fills, standing_list


def is_explained(record):
    return first_row(record) is None


def explained_rows(record):
    t = first_row(record)
    return len(record[1]) if t is None else t


def day_for(record):
    if bars_of(record):
        return None
    rule, rows = record
    strangers = strangers_of(record)
    plans = [step_plan(record, s, strangers) for s in range(len(rows))]
    names = names_in(rows, plans)
    return rule, tuple([step_acts(rows, s, plans[s], names) for s in range(len(rows))])


def strangers_of(record):
    """All strangers that have to rest at some time, in the order in which they are needed."""
    rows = record[1]
    standing = standing_list(rows)
    found = []
    for t, row in enumerate(rows):
        if row[0] == "call":
            found.extend(call_strangers(record, t, standing[t]))
        steps = fill_steps(row, standing[t])
        for i, fill in enumerate(row_fills(row)):
            if fill[2] is None:
                found.append(fill_stranger(record, t, i, steps))
    return found


def fill_stranger(record, t, i, steps):
    """The stranger for fill i of row t; steps are the rests of the open orders before each fill of this row."""
    rule, rows = record
    row = rows[t]
    price, size, _ = row_fills(row)[i]
    beside = [k for k in steps[i] if rows[k][3] == price]
    if row[0] == "order":
        side = other_side(row[2])
    else:
        # Where no order of the record rests at the price, either side is as good.
        side = rows[beside[0]][2] if beside else "buy"
    return stranger_step(rule, rows, t, i, steps), (t, i), side, price, size


def stranger_step(rule, rows, t, i, steps):
    """By "time" strangers stand before the open orders at the price, by "late" behind those that were used up."""
    price = row_fills(rows[t])[i][0]
    if rule == "time":
        return min([k for k in steps[i] if rows[k][3] == price], default=t)
    if rule == "late" and rows[t][0] == "order":
        return used_last(rows[t], i, price, steps, t)
    return t


def used_last(row, i, price, steps, default):
    """The order at the price that the fills before fill i of this row used up last."""
    used = default
    for e, fill in enumerate(row[5][:i]):
        if fill[0] == price and fill[2] is not None and fill[2] not in steps[e + 1]:
            used = fill[2]
    return used


def call_strangers(record, t, rests):
    """At a call strangers take the other side of all that orders of the record are filled."""
    rows = record[1]
    price, pairs = rows[t][1:]
    if price is None:
        return []
    sold = lots([pair for pair in pairs if rows[pair[0]][2] == "sell"])
    bought = lots([pair for pair in pairs if rows[pair[0]][2] == "buy"])
    if not pairs:
        sold = bought = 1
    buys = [(call_step(record, t, rests, "buy"), (t, 0), "buy", price, sold)]
    sells = [(call_step(record, t, rests, "sell"), (t, 1), "sell", price, bought)]
    return [stranger for stranger in buys + sells if stranger[4] > 0]


def call_step(record, t, rests, side):
    """Strangers go first at the price of the call: by "time" they come first, by "late" last."""
    rule, rows = record
    price = rows[t][1]
    beside = [k for k in rests if rows[k][2] == side and rows[k][3] == price]
    return min(beside, default=t) if rule == "time" else t


def step_plan(record, s, strangers):
    """The acts of step s in order: each as a stranger that comes to rest, or as None for an act of the row itself.

    By "late" strangers come in the turned order, since whoever comes last is taken first.
    """
    rule, rows = record
    guests = [stranger for stranger in strangers if stranger[0] == s]
    if rows[s][0] != "prints":
        return (guests[::-1] if rule == "late" else guests) + [None]
    plan = []
    for i in range(len(rows[s][1])):
        plan.extend([stranger for stranger in guests if stranger[1] == (s, i)])
        plan.append(None)
    return plan


def names_in(rows, plans):
    """What fills may name: for each order of the record, and the key of each stranger, its name, side and size."""
    names = {}
    for s, plan in enumerate(plans):
        for a, stranger in enumerate(plan):
            if stranger is not None:
                names[stranger[1]] = ((s, a), stranger[2], stranger[4])
            elif rows[s][0] == "order":
                names[s] = ((s, a), rows[s][2], rows[s][4])
    return names


def step_acts(rows, s, plan, names):
    own = own_acts(rows[s], s, names)
    acts = []
    done = 0
    for stranger in plan:
        if stranger is None:
            acts.append(own[done])
            done += 1
        else:
            acts.append(("order", None, stranger[2], stranger[3], stranger[4], ()))
    return tuple(acts)


def own_acts(row, s, names):
    """The acts of row s itself: one, or in prints one for each fill, a stranger who takes just this."""
    if row[0] == "prints":
        return [taker(fill, fill_key(fill, s, i), names) for i, fill in enumerate(row[1])]
    if row[0] == "order":
        fills = [(fill[0], fill[1], names[fill_key(fill, s, i)][0]) for i, fill in enumerate(row[5])]
        return [row[:5] + (tuple(fills),)]
    if row[0] == "cancel":
        return [("cancel", names[row[1]][0])]
    if row[0] == "call":
        return [("call", row[1], call_pairs(row, s, names))]
    return [row]


def fill_key(fill, s, i):
    """Where the names have the resting order of fill i of row s."""
    return (s, i) if fill[2] is None else fill[2]


def taker(fill, key, names):
    price, size, _ = fill
    name, side, _ = names[key]
    return "order", None, other_side(side), price, size, ((price, size, name),)


def call_pairs(row, s, names):
    """What the call in row s fills: the record's orders as it says, its strangers wholly."""
    own = [(names[n][0], size) for n, size in row[2]]
    strangers = [(names[key][0], names[key][2]) for key in ((s, 0), (s, 1)) if key in names]
    return tuple(sorted(own + strangers))
