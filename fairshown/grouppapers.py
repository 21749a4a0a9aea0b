"""A paper that shows which groups of members show a breach."""

from fairshown.bars import first_bar
from fairshown.explainpapers import explain_paper
from fairshown.groups import least_groups, quiet_groups
from fairshown.records import seen


def group_paper(record):
    shown = [(group, first_bar(seen(record, group))) for group in least_groups(record)]
    quiet = [(group, explain_paper(seen(record, group))) for group in quiet_groups(record)]
    return tuple(shown), tuple(quiet)
