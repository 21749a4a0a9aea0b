"""Whether a value is a day of an exchange that kept its rule.

numbers has the name (s, a) of each order that came, with its number in the book.
"""

from fairshown.books import Book
from fairshown.errors import InvalidPaper, NotUsable
from fairshown.kinds import is_integer, is_name, is_number, is_positive, is_rule, is_side
from fairshown.places import row_fills


def lets_day(thing):
    """The number of steps of a day; InvalidPaper for anything else."""
    if not is_day_shape(thing):
        raise InvalidPaper("shape", -1)
    rule, steps = thing
    if not is_rule(rule):
        raise InvalidPaper("rule", -1)
    book = Book(rule)
    numbers = {}
    for s in range(len(steps)):
        lead_step(steps, s, book, numbers)
    return len(steps)


def lead_step(steps, s, book, numbers):
    """Do to the book what step s says, and number its orders; InvalidPaper if an act is not by the rule."""
    for a, act in enumerate(steps[s]):
        if is_misplaced(steps, (s, a), book, numbers):
            raise InvalidPaper("place", (s, a))
        lead_act(act, (s, a), book, numbers)
        if act[0] == "order":
            numbers[(s, a)] = len(numbers)


def is_day_shape(thing):
    if not isinstance(thing, tuple) or len(thing) != 2:
        return False
    rule, steps = thing
    if not isinstance(rule, str) or not isinstance(steps, tuple):
        return False
    return all([isinstance(step, tuple) and all([is_act_shape(act) for act in step]) for step in steps])


def is_act_shape(thing):
    if not isinstance(thing, tuple):
        return False
    return is_order_shape(thing) or is_cancel_shape(thing) or is_call_shape(thing) or thing == ("closed",)


def is_order_shape(act):
    if len(act) != 6 or act[0] != "order":
        return False
    member, side, price, size, fills = act[1:]
    if not (member is None or isinstance(member, str)) or not isinstance(side, str):
        return False
    if not is_integer(price) or not is_integer(size) or not isinstance(fills, tuple):
        return False
    return all([is_fill_shape(fill) for fill in fills])


def is_fill_shape(thing):
    if not isinstance(thing, tuple) or len(thing) != 3:
        return False
    return is_integer(thing[0]) and is_integer(thing[1]) and is_order_name(thing[2])


def is_cancel_shape(act):
    return len(act) == 2 and act[0] == "cancel" and is_order_name(act[1])


def is_call_shape(act):
    if len(act) != 3 or act[0] != "call" or not isinstance(act[2], tuple):
        return False
    return (act[1] is None or is_integer(act[1])) and all([is_share_shape(pair) for pair in act[2]])


def is_share_shape(thing):
    return isinstance(thing, tuple) and len(thing) == 2 and is_order_name(thing[0]) and is_integer(thing[1])


def is_order_name(thing):
    """A pair of numbers, whether it names an order or not."""
    return isinstance(thing, tuple) and len(thing) == 2 and is_number(thing[0]) and is_number(thing[1])


def is_misplaced(steps, at, book, numbers):
    """Whether the act at the place (s, a) cannot stand there, whatever it does to the book."""
    s, a = at
    act = steps[s][a]
    if act[0] == "closed" and at != (0, 0) or act[0] == "call" and not book.is_closed:
        return True
    # A cancel of no order that came is a stranger's.
    if act[0] == "cancel" and act[1] not in numbers or is_strangers(steps, act):
        return False
    return a + 1 < len(steps[s]) or any([row_fills(earlier) != () for earlier in steps[s][:a]])


def is_strangers(steps, act):
    """Whether an act is a stranger's; if it is a cancel, the order that it names came before."""
    if act[0] == "cancel":
        return member_at(steps, act[1]) is None
    return act[0] == "order" and act[1] is None


def member_at(steps, name):
    """The member of the order (s, a), None for a stranger."""
    s, a = name
    return steps[s][a][1]


def lead_act(act, at, book, numbers):
    """Do to the book what the act at the place (s, a) says; InvalidPaper if it is not by the rule."""
    if act[0] == "order":
        lead_order(act, at, book, numbers)
    elif act[0] == "cancel":
        lead_cancel(act, at, book, numbers)
    elif act[0] == "call":
        lead_call(act, at, book, numbers)
    else:
        book.close()


def lead_order(act, at, book, numbers):
    member, side, price, size, fills = act[1:]
    if not (member is None or is_name(member)) or not (is_side(side) and is_positive(price) and is_positive(size)):
        raise InvalidPaper("order", at)
    told = tuple([(x, part, numbers.get(name, -1)) for x, part, name in fills])
    try:
        book.order_told(side, price, size, told)
    except NotUsable as error:
        raise InvalidPaper("fills", at + (error.at,))


def lead_cancel(act, at, book, numbers):
    n = numbers.get(act[1], -1)
    if n not in book:
        raise InvalidPaper("cancel", at)
    book.cancel(n)


def lead_call(act, at, book, numbers):
    price, pairs = act[1:]
    # Names follow each other as their numbers do; -1 is no order's number.
    told = tuple([(numbers.get(name, -1), part) for name, part in pairs])
    try:
        book.call_told(price, told)
    except NotUsable as error:
        raise InvalidPaper(error.word, at)
