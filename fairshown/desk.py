"""A desk: an audit that is led and asked by rows of text."""

from fairshown.audits import Audit
from fairshown.errors import InvalidRow, InvalidText
from fairshown.eventreadings import read_event, read_log
from fairshown.eventtexts import event_line
from fairshown.recordreadings import is_number_text
from fairshown.recordtexts import row_text, text_or_none


class Desk:
    """Rows of text lead its audit; before the first one there is none."""

    def __init__(self):
        self._audit = None
        self._calls = 0

    def say(self, row):
        self._calls += 1
        beginning = beginning_in(row)
        if beginning is not None:
            self._audit = Audit(beginning[1], beginning[2])
            return "ok"
        if self._audit is None:
            raise InvalidRow(row)
        event = event_in(row)
        if event is not None:
            self._audit.go(event)
            return "ok"
        answer = answer_to(self._audit, row)
        if answer is None:
            raise InvalidRow(row)
        return answer

    def counts(self):
        # Nobody can ask between the start and the end of a call, so one number is enough for both.
        return self._calls, self._calls


def beginning_in(row):
    """The first element of a log that the row writes, or None."""
    try:
        return read_log([row])[0]
    except InvalidText:
        return None


def event_in(row):
    """The event that the row writes, or None."""
    try:
        return read_event(row)
    except InvalidText:
        return None


def answer_to(audit, row):
    """The answer to a row that is no event, or None if it is not possible."""
    words = row.split(" ")
    if len(words) == 2 and is_number_text(words[1]):
        return answer_about(audit, words[0], int(words[1]))
    answer = answer_of_log(audit, row)
    return answer_of_record(audit, row) if answer is None else answer


def answer_about(audit, word, number):
    if word == "at":
        return row_text(audit[number])
    return str(audit.ahead(number)) if word == "ahead" else None


def answer_of_log(audit, word):
    """What the audit tells of its events and of what they led to."""
    if word == "undo":
        return event_line(audit.undo())
    if word == "count":
        return str(len(audit))
    if word == "log":
        return str(audit)
    if word == "rule":
        return audit.rule
    if word == "members":
        return listed(audit.members)
    if word == "rows":
        return str(len(audit.record[1]))
    if word == "table":
        return " / ".join(audit.table()) or "-"
    return None


def answer_of_record(audit, word):
    """What the audit tells of what its record and its view show."""
    if word == "bars":
        return listed([bar_text(bar) for bar in audit.bars])
    if word == "broken":
        return listed([bar_text(bar) for bar in audit.broken])
    if word == "first":
        return "-" if audit.first is None else bar_text(audit.first)
    if word == "shown":
        return "yes" if audit.bars else "no"
    if word == "least":
        return listed([group_text(group) for group in audit.least()])
    if word == "quiet":
        return listed([group_text(group) for group in audit.quiet()])
    if word == "rules":
        return listed(audit.rules())
    return None


def listed(texts):
    return " ".join(texts) if texts else "-"


def bar_text(bar):
    word, t, i, k, j = bar
    return f"{word}/{t}/{i}/{k}/{text_or_none(j)}"


def group_text(group):
    return ",".join(group) if group else "-"
