"""What the call at the end of the closed part can trade.

standing has each resting order of a book by its number: (side, price, rest), in the order in which they came.
"""

from fairshown.kinds import are_pairs, is_positive
from fairshown.places import goes_past, lots
from fairshown.takings import queue_at, standing_of


def call_volume(book, price):
    return volume_at(standing_of(book), price)


def call_prices(book):
    possible = possible_marks(standing_of(book))
    if not possible:
        return ()
    # What is possible at two prices is possible between them.
    return tuple(range(min(possible), max(possible) + 1))


def call_fills(book, price):
    found = all_call_fills(book.rule, standing_of(book), price)
    yield from found


def volume_at(standing, price):
    return min(willing(standing, "buy", price), willing(standing, "sell", price))


def willing(standing, side, price):
    """How much the orders of a side have that would trade at this price."""
    return sum([rest for one, mark, rest in standing.values() if one == side and not goes_past(side, price, mark)])


def better_pairs(standing, side, price):
    """The pairs (n, rest) of the orders of a side that are better than the price."""
    return [(n, standing[n][2]) for n in standing if standing[n][0] == side and goes_past(side, standing[n][1], price)]


def most_traded(standing):
    """As buys fade and sells grow at order prices alone, no price between two of these trades more."""
    return max([volume_at(standing, order[1]) for order in standing.values()], default=0)


def is_call_price(standing, price):
    """Whether any value is the price of a call that is possible, None if nothing crosses."""
    most = most_traded(standing)
    if most == 0:
        return price is None
    if not is_positive(price) or volume_at(standing, price) != most:
        return False
    return all([lots(better_pairs(standing, side, price)) <= most for side in ("buy", "sell")])


def possible_marks(standing):
    """The possible prices that an order has, the least and the greatest possible one of all among them."""
    return [order[1] for order in standing.values() if is_call_price(standing, order[1])]


def least_call_price(standing):
    return min(possible_marks(standing), default=None)


def served(standing, queue, left):
    """The pairs (n, size) of those in the queue, one behind the other, until nothing is left."""
    pairs = []
    for n in queue:
        size = min(left, standing[n][2])
        left -= size
        if size > 0:
            pairs.append((n, size))
    return pairs


def shared(standing, queue, left):
    """All ways to share what is left among those in the queue, each a list of pairs (n, size)."""
    ways = [([], left)]
    for n in queue:
        ways = [(pairs + [(n, size)] if size > 0 else pairs, more - size)
                for pairs, more in ways for size in range(min(more, standing[n][2]) + 1)]
    return [pairs for pairs, more in ways if more == 0]


def side_pairs(rule, standing, side, price):
    """All ways in which the orders of a side can be filled by a call at a possible price."""
    better = better_pairs(standing, side, price)
    left = volume_at(standing, price) - lots(better)
    queue = queue_at(rule, standing, side, price)
    ways = shared(standing, queue, left) if rule == "price" else [served(standing, queue, left)]
    return [better + pairs for pairs in ways]


def all_call_fills(rule, standing, price):
    buys = side_pairs(rule, standing, "buy", price)
    sells = side_pairs(rule, standing, "sell", price)
    return sorted([tuple(sorted(bought + sold)) for bought in buys for sold in sells])


def first_call_fills(rule, standing, price):
    """What a call at a possible price fills; where the rule leaves a choice, earlier orders first."""
    if price is None:
        return ()
    fills = []
    for side in ("buy", "sell"):
        better = better_pairs(standing, side, price)
        left = volume_at(standing, price) - lots(better)
        fills = fills + better + served(standing, queue_at(rule, standing, side, price), left)
    return tuple(sorted(fills))


def are_call_fills(rule, standing, price, fills):
    """Whether any value fills are possible at this price, a possible one."""
    if not are_pairs(fills):
        return False
    if rule != "price" or price is None:
        return fills == first_call_fills(rule, standing, price)
    if not all([can_have(standing, price, n, size) for n, size in fills]):
        return False
    better = better_pairs(standing, "buy", price) + better_pairs(standing, "sell", price)
    return is_all(standing, price, fills) and all([pair in fills for pair in better])


def can_have(standing, price, n, size):
    """Whether a call at this price may fill order n so much, as far as this order alone goes."""
    if n not in standing:
        return False
    side, mark, rest = standing[n]
    return size <= rest and not goes_past(side, price, mark)


def is_all(standing, price, fills):
    """Whether the fills are on each side as much as is traded at the price."""
    bought = lots([pair for pair in fills if standing[pair[0]][0] == "buy"])
    return bought == volume_at(standing, price) and lots(fills) == 2 * bought
