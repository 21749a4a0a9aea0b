"""Logs of audits, and the audits that they lead to."""

from fairshown.audits import Audit, is_event, led_audit
from fairshown.kinds import is_name_set, is_rule


def is_log(thing):
    """Whether any value is a log of an audit, whether its events are possible or not."""
    if not isinstance(thing, tuple) or thing == ():
        return False
    return is_beginning(thing[0]) and all([is_event(event) for event in thing[1:]])


def is_beginning(thing):
    """Whether an audit can be made of any value as the first element of its log."""
    if not isinstance(thing, tuple) or len(thing) != 3 or thing[0] != "audit":
        return False
    return is_rule(thing[1]) and is_name_set(thing[2]) and len(thing[2]) <= Audit.MEMBERS


def replayed(log):
    _, rule, members = log[0]
    return led_audit(rule, members, log[1:])
