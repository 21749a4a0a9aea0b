"""A paper that shows which rules explain a record."""

from fairshown.explainpapers import explain_paper
from fairshown.kinds import RULES
from fairshown.records import with_rule


def rule_paper(record):
    return tuple([explain_paper(with_rule(record, rule)) for rule in sorted(RULES)])
