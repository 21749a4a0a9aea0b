"""What an order that comes to a book takes.

standing has each resting order of a book by its number: (side, price, rest), in the order in which they came.
"""

from fairshown.kinds import is_fill
from fairshown.places import goes_past, other_side


def takings(book, side, price, size):
    standing = {} if book.is_closed else standing_of(book)
    found = all_takings(book.rule, standing, side, price, size)
    yield from found


def standing_of(book):
    return {n: (side, price, rest) for n, side, price, rest in book.resting()}


def best_price(standing, side):
    prices = [order[1] for order in standing.values() if order[0] == side]
    return max(prices, default=None) if side == "buy" else min(prices, default=None)


def queue_at(rule, standing, side, price):
    """The orders that rest at a price in the order in which they are taken; by "price" as they came."""
    queue = [n for n in standing if standing[n][0] == side and standing[n][1] == price]
    return queue[::-1] if rule == "late" else queue


def next_fills(rule, standing, side, price, left):
    """The fills of which an order with so much left takes one next, ascending; [] if it takes nothing more."""
    best = best_price(standing, other_side(side))
    if left == 0 or best is None or goes_past(side, best, price):
        return []
    queue = queue_at(rule, standing, other_side(side), best)
    return [(best, min(left, standing[n][2]), n) for n in (queue if rule == "price" else queue[:1])]


def less_fill(standing, size, n):
    """What rests when order n was filled with this size."""
    side, price, rest = standing[n]
    if rest > size:
        return {**standing, n: (side, price, rest - size)}
    return {k: standing[k] for k in standing if k != n}


def first_taking(rule, standing, side, price, size):
    """What the order takes; where the rule leaves a choice, from the earliest."""
    fills = []
    left = size
    there = standing
    while next_fills(rule, there, side, price, left):
        fill = next_fills(rule, there, side, price, left)[0]
        fills.append(fill)
        left -= fill[1]
        there = less_fill(there, fill[1], fill[2])
    return tuple(fills)


def all_takings(rule, standing, side, price, size):
    found = []
    waiting = [((), standing, size)]
    while waiting:
        fills, there, left = waiting.pop()
        following = next_fills(rule, there, side, price, left)
        if not following:
            found.append(fills)
        waiting.extend([(fills + (fill,), less_fill(there, fill[1], fill[2]), left - fill[1]) for fill in following])
    return sorted(found)


def taking_fault(rule, standing, asked, fills):
    """The index of the first fill that the order asked for, (side, price, size), cannot have, or None.

    It is the number of fills if one is missing.
    """
    side, price, left = asked
    there = standing
    for k, fill in enumerate(fills):
        # By kind first, since True equals 1.
        if not is_fill(fill) or fill not in next_fills(rule, there, side, price, left):
            return k
        there = less_fill(there, fill[1], fill[2])
        left -= fill[1]
    return len(fills) if next_fills(rule, there, side, price, left) else None
