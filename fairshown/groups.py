"""Which groups of members can show a breach."""

from fairshown.bars import first_row
from fairshown.records import members_of, seen


def is_shown_by(record, members):
    return first_row_shown(record, members) is not None


def first_row_shown(record, members):
    return first_row(seen(record, members))


def least_groups(record):
    return tuple(least_of([group for group in groups_of(record) if is_shown_by(record, group)]))


def quiet_groups(record):
    quiet = [group for group in groups_of(record) if not is_shown_by(record, group)]
    return tuple([group for group in quiet if not any([is_proper_part(group, whole) for whole in quiet])])


def groups_of(record):
    """All groups of the record, ascending."""
    groups = [()]
    for member in members_of(record):
        groups = groups + [group + (member,) for group in groups]
    return sorted(groups)


def is_part(part, group):
    return all([member in group for member in part])


def is_proper_part(part, group):
    return len(part) < len(group) and is_part(part, group)


def least_of(groups):
    """Those of some groups that contain no other one of them."""
    return [group for group in groups if not any([is_proper_part(part, group) for part in groups])]
