"""A paper that shows that a group witnesses a record, and that no smaller one does."""

from fairshown.bars import bars_at
from fairshown.groups import is_part
from fairshown.holders import bar_owners, breached_rows, holders_at
from fairshown.witnesses import groups_of_many, has_holder, witness_groups


def witness_paper(record):
    group = witness_groups(record)[0]
    bars = [held_bar(record, t, group) for t in breached_rows(record)]
    misses = [missed_row(record, other) for other in groups_of_many(record, len(group) - 1)]
    return tuple(bars), tuple(misses)


def held_bar(record, t, group):
    """A bar of row t that a witness holds."""
    return [bar for bar in bars_at(record, t) if is_part(bar_owners(record, bar), group)][0]


def missed_row(record, group):
    """A breached row of which a group that is no witness holds no bar."""
    return [t for t in breached_rows(record) if not has_holder(group, holders_at(record, t))][0]
