"""Records as objects, what some members see of one, and the beginning of one."""

from fairshown.errors import NotUsable
from fairshown.kinds import is_number
from fairshown.recordchecker import lets_record
from fairshown.recordreadings import record_read
from fairshown.records import cut, members_of, open_at, rest_at, seen, with_rule
from fairshown.recordtexts import record_text


class Record:
    """A rule and rows that make a record. It never changes."""

    def __init__(self, rule, rows):
        lets_record((rule, rows))
        self._rule = rule
        self._rows = rows

    @property
    def rule(self):
        return self._rule

    @property
    def rows(self):
        return self._rows

    @property
    def form(self):
        return self._rule, self._rows

    @property
    def members(self):
        return members_of(self.form)

    def __getitem__(self, t):
        if not is_number(t) or t >= len(self._rows):
            raise NotUsable("row", -1)
        return self._rows[t]

    def __contains__(self, n):
        return is_number(n) and n < len(self._rows) and self._rows[n][0] == "order"

    def __len__(self):
        return len(self._rows)

    def __iter__(self):
        return iter(self._rows)

    def __eq__(self, other):
        return isinstance(other, Record) and self._rule == other._rule and self._rows == other._rows

    def __str__(self):
        return str(record_text(self.form))

    def __add__(self, other):
        return Record(self._rule, self._rows + (other,))

    def __and__(self, other):
        rule, rows = seen(self.form, other if isinstance(other, tuple) else (other,))
        return Record(rule, rows)

    def by(self, rule):
        rule, rows = with_rule(self.form, rule)
        return Record(rule, rows)

    def cut(self, t):
        rule, rows = cut(self.form, t)
        return Record(rule, rows)

    def __call__(self, n, t):
        return rest_at(self.form, n, t)

    def walk(self):
        pairs = [(t, open_at(self.form, t)) for t in range(len(self._rows) + 1)]
        yield from pairs

    @classmethod
    def parsed(cls, text):
        # A Record itself, since a class below may be made of something else than a rule and rows.
        rule, rows = record_read(text)
        return Record(rule, rows)

    @staticmethod
    def opened(rule):
        return Record(rule, ())

    @staticmethod
    def shut(rule):
        return Record(rule, (("closed",),))


class View(Record):
    """What some members see of a Record."""

    def __init__(self, rec, *members):
        rule, rows = seen(rec.form, members)
        Record.__init__(self, rule, rows)
        self._source = rec

    @property
    def source(self):
        return self._source

    def lift(self):
        return Record(self._source.rule, self._source.rows)


class Beginning(Record):
    """The first rows of a Record."""

    def __init__(self, rec, t):
        rule, rows = cut(rec.form, t)
        Record.__init__(self, rule, rows)
        self._source = rec

    @property
    def source(self):
        return self._source

    def later(self):
        return self._source.rows[len(self.rows):]
