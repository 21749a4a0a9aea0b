"""Whether a value is a record."""

from fairshown.errors import InvalidPaper
from fairshown.kinds import is_row, is_rule
from fairshown.places import after_row, goes_past, is_closed_before, lots, row_fills


def lets_record(thing):
    """The number of rows of a record; InvalidPaper for anything else."""
    if not is_record_shape(thing):
        raise InvalidPaper("shape", -1)
    rows = thing[1]
    rests = {}
    closed = False
    for t, row in enumerate(rows):
        fault = row_fault(rows, t, rests, closed)
        if fault is not None:
            raise InvalidPaper(fault[0], fault[1])
        rests = after_row(row, t, rests)
        closed = row[0] == "closed" or closed and row[0] != "call"
    return len(rows)


def is_record_shape(thing):
    if not isinstance(thing, tuple) or len(thing) != 2:
        return False
    rule, rows = thing
    return is_rule(rule) and isinstance(rows, tuple) and all([is_row(row) for row in rows])


def can_stand(rows, t, rests):
    """Whether row t, a row by form, can follow the rows before it; rests are those of the open orders."""
    return row_fault(rows, t, rests, is_closed_before(rows, t)) is None


def row_fault(rows, t, rests, closed):
    """What bars row t from the record, as the pair of InvalidPaper's fields, or None."""
    row = rows[t]
    if is_misplaced(row, t, closed):
        return "closed", t
    if row[0] == "cancel":
        return None if row[1] in rests else ("open", t)
    if row[0] == "call":
        return call_fault(rows, t, rests)
    return fills_fault(rows, t, rests)


def is_misplaced(row, t, closed):
    if row[0] == "closed":
        return t != 0
    if row[0] == "call":
        return not closed
    return closed and row_fills(row) != ()


def fills_fault(rows, t, rests):
    left = dict(rests)
    for i, fill in enumerate(row_fills(rows[t])):
        word = fill_fault(rows, t, i, left)
        if word is not None:
            return word, (t, i)
        if fill[2] is not None:
            left[fill[2]] = left[fill[2]] - fill[1]
    return None


def fill_fault(rows, t, i, left):
    """The first word that applies to fill i of row t; left has what the fills before it leave of the open orders."""
    row = rows[t]
    price, size, n = row_fills(row)[i]
    if n is not None and left.get(n, 0) == 0:
        return "open"
    if n is not None and row[0] == "order" and rows[n][2] == row[2]:
        return "side"
    if n is not None and rows[n][3] != price or row[0] == "order" and goes_past(row[2], price, row[3]):
        return "price"
    if n is not None and left[n] < size or row[0] == "order" and lots(row[5][:i + 1]) > row[4]:
        return "size"
    return None


def call_fault(rows, t, rests):
    price, pairs = rows[t][1:]
    for i, (n, size) in enumerate(pairs):
        if n not in rests:
            return "open", (t, i)
        if goes_past(rows[n][2], price, rows[n][3]):
            return "price", (t, i)
        if size > rests[n]:
            return "size", (t, i)
    return None
