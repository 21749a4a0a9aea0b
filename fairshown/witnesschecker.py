"""Whether a paper shows that a group witnesses a record, and that no smaller one does."""

from fairshown.bars import is_bar
from fairshown.errors import InvalidPaper
from fairshown.holders import bar_owners, breached_rows, holders_at
from fairshown.kinds import is_number
from fairshown.witnesses import groups_of_many, has_holder


def lets_witness(record, thing):
    """The group that witnesses the record; InvalidPaper for anything else than a witness paper."""
    if not is_witness_shape(thing):
        raise InvalidPaper("shape", -1)
    bars, misses = thing
    check_bars(record, bars)
    group = tuple(sorted({owner for bar in bars for owner in bar_owners(record, bar)}))
    check_misses(record, misses, groups_of_many(record, len(group) - 1))
    return group


def is_witness_shape(thing):
    return isinstance(thing, tuple) and len(thing) == 2 and all([isinstance(part, tuple) for part in thing])


def check_bars(record, bars):
    rows = breached_rows(record)
    if len(bars) != len(rows):
        raise InvalidPaper("many", 0)
    for k, bar in enumerate(bars):
        if not is_bar(record, bar) or bar[1] != rows[k]:
            raise InvalidPaper("bar", (0, k))


def check_misses(record, misses, groups):
    """InvalidPaper unless misses has for each of these groups a breached row of which it holds no bar."""
    rows = breached_rows(record)
    if len(misses) != len(groups):
        raise InvalidPaper("many", 1)
    for k, t in enumerate(misses):
        # By kind first, since True equals 1.
        if not is_number(t) or t not in rows:
            raise InvalidPaper("row", (1, k))
        if has_holder(groups[k], holders_at(record, t)):
            raise InvalidPaper("holds", (1, k))
