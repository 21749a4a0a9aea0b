"""Which rules explain a record."""

from fairshown.bars import first_row
from fairshown.explaining import is_explained
from fairshown.kinds import RULES
from fairshown.records import with_rule


def rules_of(record):
    return tuple([rule for rule in sorted(RULES) if is_explained(with_rule(record, rule))])


def breaches_by_rule(record):
    return tuple([(rule, first_row(with_rule(record, rule))) for rule in sorted(RULES)])
