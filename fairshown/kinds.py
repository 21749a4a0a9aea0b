"""Kinds of values: each function accepts any value and tells whether it is of this kind by form alone."""

RULES = ("time", "late", "price")
SIDES = ("buy", "sell")
LETTERS = "abcdefghijklmnopqrstuvwxyz"


def is_integer(thing):
    return isinstance(thing, int) and not isinstance(thing, bool)


def is_number(thing):
    return is_integer(thing) and thing >= 0


def is_positive(thing):
    """A price, a size: a number from 1 on."""
    return is_integer(thing) and thing >= 1


def is_name(thing):
    return isinstance(thing, str) and 1 <= len(thing) <= 8 and all([letter in LETTERS for letter in thing])


def is_side(thing):
    return isinstance(thing, str) and thing in SIDES


def is_rule(thing):
    return isinstance(thing, str) and thing in RULES


def is_fill(thing):
    if not isinstance(thing, tuple) or len(thing) != 3:
        return False
    price, size, n = thing
    return is_positive(price) and is_positive(size) and (n is None or is_number(n))


def is_row(thing):
    if not isinstance(thing, tuple):
        return False
    if is_order_row(thing) or is_cancel_row(thing) or is_prints_row(thing) or is_call_row(thing):
        return True
    return thing == ("closed",)


def is_order_row(row):
    if len(row) != 6 or row[0] != "order":
        return False
    member, side, price, size, fills = row[1:]
    return is_name(member) and is_side(side) and is_positive(price) and is_positive(size) and are_fills(fills)


def is_cancel_row(row):
    return len(row) == 2 and row[0] == "cancel" and is_number(row[1])


def is_prints_row(row):
    return len(row) == 2 and row[0] == "prints" and are_fills(row[1])


def is_call_row(row):
    if len(row) != 3 or row[0] != "call" or not are_pairs(row[2]):
        return False
    return row[2] == () if row[1] is None else is_positive(row[1])


def are_fills(thing):
    return isinstance(thing, tuple) and all([is_fill(fill) for fill in thing])


def are_pairs(thing):
    """The fills of a call: pairs (n, size), each n greater than the one before."""
    if not isinstance(thing, tuple) or not all([is_pair(pair) for pair in thing]):
        return False
    return all([before[0] < pair[0] for before, pair in zip(thing, thing[1:])])


def is_pair(thing):
    return isinstance(thing, tuple) and len(thing) == 2 and is_number(thing[0]) and is_positive(thing[1])


def is_price_set(thing):
    """An ascending tuple of prices, perhaps empty."""
    if not isinstance(thing, tuple) or not all([is_positive(price) for price in thing]):
        return False
    return all([before < price for before, price in zip(thing, thing[1:])])


def is_name_set(thing):
    """An ascending tuple of names, perhaps empty."""
    if not isinstance(thing, tuple) or not all([is_name(name) for name in thing]):
        return False
    return all([before < name for before, name in zip(thing, thing[1:])])
