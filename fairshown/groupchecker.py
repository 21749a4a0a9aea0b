"""Whether a paper shows which groups of members show a breach."""

from fairshown.bars import is_bar
from fairshown.errors import InvalidPaper
from fairshown.explainchecker import verdict
from fairshown.groups import groups_of, is_part
from fairshown.kinds import is_name, is_name_set
from fairshown.records import members_of, seen


def lets_groups(record, thing):
    """How many groups are shown and how many are quiet; InvalidPaper for anything else."""
    if not is_groups_shape(thing):
        raise InvalidPaper("shape", -1)
    shown, quiet = thing
    check_shown(record, shown)
    check_quiet(record, quiet)
    check_all(record, [group for group, _ in shown], [group for group, _ in quiet])
    return len(shown), len(quiet)


def is_groups_shape(thing):
    return isinstance(thing, tuple) and len(thing) == 2 and are_group_pairs(thing[0]) and are_group_pairs(thing[1])


def are_group_pairs(thing):
    return isinstance(thing, tuple) and all([is_group_pair(pair) for pair in thing])


def is_group_pair(thing):
    if not isinstance(thing, tuple) or len(thing) != 2 or not isinstance(thing[0], tuple):
        return False
    return all([is_name(name) for name in thing[0]])


def check_shown(record, shown):
    for k, (group, bar) in enumerate(shown):
        if not is_next_group(record, shown, k):
            raise InvalidPaper("group", (0, k))
        if not is_bar(seen(record, group), bar):
            raise InvalidPaper("bar", (0, k))


def check_quiet(record, quiet):
    for k, (group, paper) in enumerate(quiet):
        if not is_next_group(record, quiet, k):
            raise InvalidPaper("group", (1, k))
        if verdict(seen(record, group), paper) is not True:
            raise InvalidPaper("day", (1, k))


def is_next_group(record, pairs, k):
    """Whether pair k has a group of the record that is greater than that of the pair before."""
    group = pairs[k][0]
    if not is_name_set(group) or not is_part(group, members_of(record)):
        return False
    return k == 0 or pairs[k - 1][0] < group


def check_all(record, shown, quiet):
    """InvalidPaper unless these groups, no two of one list equal, decide for each group of the record."""
    for k, group in enumerate(shown):
        if any([other != group and is_part(other, group) for other in shown]):
            raise InvalidPaper("least", k)
    for k, group in enumerate(quiet):
        if any([other != group and is_part(group, other) for other in quiet]):
            raise InvalidPaper("greatest", k)
    for group in groups_of(record):
        if not any([is_part(part, group) for part in shown]) and not any([is_part(group, whole) for whole in quiet]):
            raise InvalidPaper("open", group)
