"""Whether a paper shows which rules explain a record."""

from fairshown.errors import InvalidPaper
from fairshown.explainchecker import verdict
from fairshown.kinds import RULES
from fairshown.records import with_rule


def lets_rules(record, thing):
    """The rules that explain the record; InvalidPaper if the paper does not show it for each rule."""
    if not isinstance(thing, tuple) or len(thing) != len(RULES):
        raise InvalidPaper("shape", -1)
    rules = []
    for k, rule in enumerate(sorted(RULES)):
        told = verdict(with_rule(record, rule), thing[k])
        if told is None:
            raise InvalidPaper("paper", k)
        if told:
            rules.append(rule)
    return tuple(rules)
