"""An audit: the receipts of some members, and what they show, kept up to date.

A state is the tuple (rule, rows, members) of an audit at a moment.
"""

from fairshown.answers import can_follow
from fairshown.bars import bars_of, first_bar, is_bar
from fairshown.errors import InvalidEvent, NothingToUndo, NotUsable
from fairshown.eventtexts import event_line
from fairshown.explaining import day_for
from fairshown.fronts import fronts_at, went_ahead
from fairshown.groups import is_shown_by, least_groups, quiet_groups
from fairshown.kinds import is_name, is_name_set, is_number, is_row, is_rule
from fairshown.places import standing_list
from fairshown.recordchecker import can_stand
from fairshown.records import members_of, open_at, order_at, orders_of, rest_at, seen
from fairshown.rulings import rules_of


class Audit:
    """Its events, the first state and the one behind each event; all else is told from these."""

    MOST = 60
    ROWS = 30
    ORDERS = 10
    MEMBERS = 5

    def __init__(self, rule, members=()):
        if not is_rule(rule):
            raise NotUsable("rule", -1)
        if not is_name_set(members):
            raise NotUsable("members", -1)
        if len(members) > Audit.MEMBERS:
            raise NotUsable("many", -1)
        self._events = ()
        self._states = ((rule, (), members),)
        self._calls = 0

    @property
    def rule(self):
        return self._states[-1][0]

    @property
    def members(self):
        return self._states[-1][2]

    @property
    def record(self):
        return self._states[-1][:2]

    @property
    def view(self):
        return view_of(self._states[-1])

    @property
    def bars(self):
        return bars_of(self.view)

    @property
    def first(self):
        return first_bar(self.view)

    @property
    def broken(self):
        return bars_of(self.record)

    def add(self, row):
        return self._led(("row", row))

    def let_in(self, member):
        return self._led(("join", member))

    def leave(self, member):
        return self._led(("leave", member))

    def set_rule(self, word):
        return self._led(("rule", word))

    def go(self, event):
        return self._led(event)

    def __call__(self, event):
        return self._led(event)

    def __getitem__(self, t):
        rows = self.view[1]
        if not is_number(t) or t >= len(rows):
            raise NotUsable("row", t)
        return rows[t]

    def __iter__(self):
        raise TypeError("an audit is not iterated over")

    def __contains__(self, thing):
        return is_bar(self.view, thing)

    def __len__(self):
        return len(self._events)

    def __eq__(self, other):
        return isinstance(other, Audit) and self._states[0] == other._states[0] and self._events == other._events

    def tried(self, *events):
        state = self._states[-1]
        for k, event in enumerate(events):
            check_event(event, state, len(self._events) + k)
            state = state_behind(state, event)
        view = view_of(state)
        return view, bars_of(view)

    def undo(self):
        self._calls += 1
        if not self._events:
            raise NothingToUndo(0)
        event = self._events[-1]
        self._events = self._events[:-1]
        self._states = self._states[:-1]
        return event

    def do_all(self, *events, keep=False):
        self._calls += 1
        events_before, states_before = self._events, self._states
        try:
            for event in events:
                self._take(event)
        except InvalidEvent:
            if keep is not True:
                self._events, self._states = events_before, states_before
            raise
        return len(events)

    def counts(self):
        # Nobody can ask between the start and the end of an operation, so one number is enough for both.
        return self._calls, self._calls

    def table(self):
        view = self.view
        fronts = [n for n, _ in fronts_at(view, len(view[1]))]
        return [order_line(view, n, fronts) for n in orders_of(view)]

    def shown_by(self, *names):
        return is_shown_by(self.record, names)

    def least(self):
        return least_groups(self.record)

    def quiet(self):
        return quiet_groups(self.record)

    def rules(self):
        return rules_of(self.view)

    def day(self):
        return day_for(self.view)

    def can_come(self, row):
        return can_follow(self.view, row)

    def ahead(self, n):
        return went_ahead(self.view, n)

    def log(self):
        rule, _, members = self._states[0]
        return (("audit", rule, members),) + self._events

    def __str__(self):
        if not self._events:
            return "-"
        return " / ".join([event_line(event) for event in self._events])

    def _led(self, event):
        """Apply an event, and return the bars that it brings."""
        self._calls += 1
        before = self.bars
        self._take(event)
        return tuple([bar for bar in self.bars if bar not in before])

    def _take(self, event):
        state = self._states[-1]
        check_event(event, state, len(self._events))
        self._events = self._events + (event,)
        self._states = self._states + (state_behind(state, event),)


def led_audit(rule, members, events):
    """A new audit behind these events, which count as no operations of it."""
    audit = Audit(rule, members)
    for event in events:
        audit._take(event)
    return audit


def view_of(state):
    """What the members see; those who have no order in the record yet see what everybody sees."""
    rule, rows, members = state
    there = members_of((rule, rows))
    return seen((rule, rows), tuple([member for member in members if member in there]))


def is_event(thing):
    """Whether any value is an event by kind."""
    if not isinstance(thing, tuple) or len(thing) != 2:
        return False
    word, what = thing
    if word == "row":
        return is_row(what)
    if word == "join" or word == "leave":
        return is_name(what)
    return word == "rule" and is_rule(what)


def check_event(event, state, many):
    """InvalidEvent unless any value is an event that is possible behind many others."""
    reason = reason_against(event, state, many)
    if reason is not None:
        raise InvalidEvent(event, reason)


def reason_against(event, state, many):
    if not is_event(event):
        return "shape"
    if many >= Audit.MOST:
        return "full"
    rule, rows, members = state
    word, what = event
    if word == "row":
        return reason_against_row(rows, what)
    if word == "join":
        return reason_against_join(members, what)
    if word == "leave":
        return None if what in members else "missing"
    return "same" if what == rule else None


def reason_against_row(rows, row):
    if len(rows) >= Audit.ROWS:
        return "long"
    if row[0] == "order" and len([other for other in rows if other[0] == "order"]) >= Audit.ORDERS:
        return "many"
    return None if can_stand(rows + (row,), len(rows), standing_list(rows)[-1]) else "row"


def reason_against_join(members, member):
    if member in members:
        return "there"
    return "many" if len(members) >= Audit.MEMBERS else None


def state_behind(state, event):
    rule, rows, members = state
    word, what = event
    if word == "row":
        return rule, rows + (what,), members
    if word == "join":
        return rule, rows, tuple(sorted(members + (what,)))
    if word == "leave":
        return rule, rows, tuple([member for member in members if member != what])
    return what, rows, members


def order_line(view, n, fronts):
    """The line of an order in the table; fronts are the orders that are in front."""
    member, side, price, size = order_at(view, n)
    behind = len(view[1])
    word = "gone"
    if n in open_at(view, behind):
        word = "front" if n in fronts else "open"
    return f"{n:>2} {member:<8} {side:<4} {price:>4} {size:>4} {rest_at(view, n, behind):>4} {word}"
