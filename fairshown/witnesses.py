"""Which groups witness a record: they hold a bar of each breached row."""

from fairshown.groups import groups_of, is_part
from fairshown.holders import breached_rows, holders_at


def witness_groups(record):
    holders = [holders_at(record, t) for t in breached_rows(record)]
    witnesses = [group for group in groups_of(record) if all([has_holder(group, held) for held in holders])]
    # All members together are a witness, so there is one.
    least = min([len(group) for group in witnesses])
    return tuple([group for group in witnesses if len(group) == least])


def has_holder(group, holders):
    """Whether a group contains one of those that hold a bar of a row."""
    return any([is_part(holder, group) for holder in holders])


def groups_of_many(record, many):
    """All groups of the record with so many members, ascending."""
    return [group for group in groups_of(record) if len(group) == many]
