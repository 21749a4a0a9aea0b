"""What stands at each place of a record. rows are the rows of a record; nothing is checked here."""


def row_fills(row):
    """The fills of an order or of prints, () for any other row."""
    if row[0] == "order":
        return row[5]
    if row[0] == "prints":
        return row[1]
    return ()


def lots(fills):
    return sum([fill[1] for fill in fills])


def other_side(side):
    return "sell" if side == "buy" else "buy"


def goes_past(side, price, mark):
    """Whether an order of this side goes further with this price than with the mark: a buy above, a sell below."""
    return price > mark if side == "buy" else price < mark


def goes_before(rule, k, j):
    """Whether order k is taken before order j of the same side and price because of when they came."""
    if rule == "time":
        return k < j
    return rule == "late" and k > j


def after_fill(rests, fill):
    """The rests of the open orders behind a fill; order n is gone when nothing is left of it."""
    size, n = fill[1:]
    return {k: rests[k] - size if k == n else rests[k] for k in rests if k != n or rests[k] > size}


def fill_steps(row, rests):
    """The rests of the open orders before each fill of the row, and behind the last one."""
    steps = [rests]
    for fill in row_fills(row):
        steps.append(after_fill(steps[-1], fill))
    return steps


def after_call(row, rests):
    taken = dict(row[2])
    return {k: rests[k] - taken.get(k, 0) for k in rests if rests[k] > taken.get(k, 0)}


def after_row(row, t, rests):
    """The rests of the open orders behind row t."""
    if row[0] == "cancel":
        return {k: rests[k] for k in rests if k != row[1]}
    if row[0] == "call":
        return after_call(row, rests)
    behind = fill_steps(row, rests)[-1]
    if row[0] == "order" and row[4] > lots(row[5]):
        return {**behind, t: row[4] - lots(row[5])}
    return behind


def standing_list(rows):
    """The rests of the open orders before each row, and behind the last one."""
    standing = [{}]
    for t, row in enumerate(rows):
        standing.append(after_row(row, t, standing[-1]))
    return standing


def steps_list(rows):
    """For each row the rests of the open orders before each of its fills, and behind the last one."""
    return [fill_steps(row, rests) for row, rests in zip(rows, standing_list(rows))]


def rests_at(rows, t, i):
    """The rests of the open orders at the place (t, i)."""
    rests = standing_list(rows[:t])[t]
    return rests if i == 0 else fill_steps(rows[t], rests)[i]


def is_closed_before(rows, t):
    """Whether the place before row t is in the closed part."""
    if t == 0 or rows[0][0] != "closed":
        return False
    return not any([row[0] == "call" for row in rows[:t]])


def took(row):
    """Whether this order took as it came and had a rest behind it."""
    return row[5] != () and lots(row[5]) < row[4]


def is_hit(row, k, i):
    """Whether order k is filled by a call, or as the resting order by one of the first i fills of any other row."""
    if row[0] == "call":
        return k in [pair[0] for pair in row[2]]
    return k in [fill[2] for fill in row_fills(row)[:i]]


def front_row(rows, k, t, i):
    """By "time": since which row the order k, open at the place (t, i), is in front, or None."""
    if took(rows[k]):
        return k
    for s in range(k + 1, t):
        if is_hit(rows[s], k, len(row_fills(rows[s]))):
            return s
    if i > 0 and is_hit(rows[t], k, i):
        return t
    return None
