"""Events and logs of an audit that lines write."""

from fairshown.errors import InvalidText
from fairshown.kinds import is_name, is_rule
from fairshown.recordreadings import row_read


def read_event(text):
    return event_read(text, 0)


def read_log(lines):
    if not lines:
        raise InvalidText(0, 0)
    beginning = beginning_read(lines[0])
    return (beginning,) + tuple([event_read(lines[k], k) for k in range(1, len(lines))])


def event_read(text, line):
    word, _, rest = text.partition(" ")
    if word == "row":
        # Without a rest the word that is missing has the index 1, as the empty one that is read here.
        return "row", row_read(rest, line=line, field=1)
    words = text.split(" ")
    fault = event_fault(words)
    if fault is not None:
        raise InvalidText(line, fault)
    return words[0], words[1]


def event_fault(words):
    """The index of the first word that is not possible, or their number if one is missing, or None."""
    if words[0] not in ("join", "leave", "rule"):
        return 0
    if len(words) < 2 or not (is_rule(words[1]) if words[0] == "rule" else is_name(words[1])):
        return 1
    return None if len(words) == 2 else 2


def beginning_read(text):
    words = text.split(" ")
    fault = beginning_fault(words)
    if fault is not None:
        raise InvalidText(0, fault)
    return "audit", words[1], () if words[2] == "-" else tuple(words[2].split(","))


def beginning_fault(words):
    """The index of the first word that is not possible, or their number if one is missing, or None."""
    if words[0] != "audit":
        return 0
    if len(words) < 2 or not is_rule(words[1]):
        return 1
    if len(words) < 3 or not are_members(words[2]):
        return 2
    return None if len(words) == 3 else 3


def are_members(word):
    """Whether a word is names with commas between, or - for none."""
    return word == "-" or all([is_name(name) for name in word.split(",")])
