"""A watch: a record that comes row by row, and what it shows so far."""

from fairshown.bars import bars_at, bars_of, first_bar
from fairshown.errors import NotUsable
from fairshown.fronts import fronts_at
from fairshown.held import Held
from fairshown.kinds import is_number, is_rule
from fairshown.recordchecker import lets_record
from fairshown.records import open_at, rest_at


class Watch:
    """Its rule and the rows so far; all else is told from these."""

    def __init__(self, rule):
        if not is_rule(rule):
            raise NotUsable("rule", -1)
        self._rule = rule
        self._rows = ()
        self._held = None

    @property
    def record(self):
        return self._rule, self._rows

    @property
    def bars(self):
        return bars_of(self.record)

    @property
    def first(self):
        return first_bar(self.record)

    @property
    def standing(self):
        return open_at(self.record, len(self._rows))

    @property
    def fronts(self):
        return fronts_at(self.record, len(self._rows))

    def lead(self, row):
        bars = self.would(row)
        self._rows = self._rows + (row,)
        return bars

    def would(self, row):
        longer = self._rule, self._rows + (row,)
        lets_record(longer)
        return bars_at(longer, len(self._rows))

    def back(self):
        if self._rows == ():
            return None
        row = self._rows[-1]
        self._rows = self._rows[:-1]
        return row

    def __len__(self):
        return len(self._rows)

    def __contains__(self, thing):
        # By kind first, since True equals 1.
        return is_number(thing) and thing in self.standing

    def __getitem__(self, n):
        return rest_at(self.record, n, len(self._rows))

    def __iter__(self):
        raise TypeError("a watch is not iterated over")

    def each(self):
        bars = [(t, bars_at(self.record, t)) for t in range(len(self._rows))]
        pairs = [pair for pair in bars if pair[1] != ()]
        yield from pairs

    def __enter__(self):
        self._held = Held(self._rows, self._held)
        return self

    def __exit__(self, kind, value, trace):
        self._rows = self._held.moment
        self._held = self._held.before

    def copy(self):
        twin = Watch(self._rule)
        twin._rows = self._rows
        return twin

    def __eq__(self, other):
        return isinstance(other, Watch) and self._rule == other._rule and self._rows == other._rows
