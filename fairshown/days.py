"""What a day tells: its record, its strangers, and what rests behind each step."""

from fairshown.books import Book
from fairshown.daychecker import is_strangers, lead_step, member_at
from fairshown.errors import NotUsable
from fairshown.kinds import is_number
from fairshown.places import row_fills


def record_of(day):
    rule, steps = day
    return rule, tuple([step_row(steps, step) for step in steps])


def step_row(steps, step):
    """The row of a step: that of its last act, or all prints if this is a stranger's."""
    if step == () or is_strangers(steps, step[-1]):
        return "prints", tuple([fill_seen(steps, fill) for act in step for fill in row_fills(act)])
    act = step[-1]
    if act[0] == "order":
        return act[:5] + (tuple([fill_seen(steps, fill) for fill in act[5]]),)
    if act[0] == "cancel":
        return "cancel", act[1][0]
    if act[0] == "call":
        # No two orders of members are of one step, so the pairs ascend as before.
        return "call", act[1], tuple([(name[0], size) for name, size in act[2] if member_at(steps, name) is not None])
    return act


def fill_seen(steps, fill):
    price, size, name = fill
    return price, size, None if member_at(steps, name) is None else name[0]


def orders_in(day):
    """The pairs (name, act) of all orders, ascending by their names."""
    steps = day[1]
    return [((s, a), act) for s, step in enumerate(steps) for a, act in enumerate(step) if act[0] == "order"]


def members_in(day):
    return tuple(sorted({act[1] for _, act in orders_in(day) if act[1] is not None}))


def strangers_in(day):
    return tuple([name for name, act in orders_in(day) if act[1] is None])


def stranger_lots(day):
    return sum([act[4] for _, act in orders_in(day) if act[1] is None])


def resting_in(day, s):
    rule, steps = day
    if not is_number(s) or s >= len(steps):
        raise NotUsable("step", -1)
    book = Book(rule)
    numbers = {}
    for t in range(s + 1):
        lead_step(steps, t, book, numbers)
    # Orders are numbered in the order of their names.
    names = list(numbers)
    return tuple([(names[n], rest) for n, _, _, rest in book.resting()])
