"""All errors of the package, in four families below ShownError."""


class ShownError(ValueError):
    """The base class of all errors of the package."""


class PaperError(ShownError):
    """A checker does not accept what it was given."""


class RecordError(ShownError):
    """What was asked does not fit the record, the book or the day."""


class AuditError(ShownError):
    """An audit cannot do what it was told."""


class TextError(ShownError):
    """A text does not write what it should."""


class InvalidPaper(PaperError):
    """The first entry of a checker's list that applies."""

    def __init__(self, word, at):
        PaperError.__init__(self, f"{word} at {at}")
        self.word = word
        self.at = at


class UnknownOrder(RecordError):
    """A value names no order."""

    def __init__(self, n):
        RecordError.__init__(self, f"no order {n}")
        self.n = n


class UnknownMember(RecordError):
    """A value names no member."""

    def __init__(self, member):
        RecordError.__init__(self, f"no member {member}")
        self.member = member


class NotUsable(RecordError):
    """An argument cannot be used."""

    def __init__(self, word, at):
        RecordError.__init__(self, f"{word} at {at}")
        self.word = word
        self.at = at


class InvalidEvent(AuditError):
    """An event is not possible."""

    def __init__(self, event, reason):
        AuditError.__init__(self, f"{reason}: {event}")
        self.event = event
        self.reason = reason


class NothingToUndo(AuditError):
    """There is no event to take back."""

    def __init__(self, steps):
        AuditError.__init__(self, f"nothing to undo behind {steps} steps")
        self.steps = steps


class InvalidText(TextError):
    """A word of a line cannot stand."""

    def __init__(self, line, field):
        TextError.__init__(self, f"line {line}, word {field}")
        self.line = line
        self.field = field


class InvalidRow(TextError):
    """A desk does not know this row."""

    def __init__(self, row):
        TextError.__init__(self, f"no such row: {row}")
        self.row = row
