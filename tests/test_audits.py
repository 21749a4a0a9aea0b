import copy
import random
import unittest

from fairshown.answers import can_follow
from fairshown.audits import Audit
from fairshown.errors import InvalidEvent, NothingToUndo, NotUsable, UnknownMember, UnknownOrder
from fairshown.eventtexts import event_line
from fairshown.explaining import day_for
from fairshown.fronts import went_ahead
from fairshown.groups import is_shown_by, least_groups, quiet_groups
from fairshown.rulings import rules_of

from helper import ANY_VALUES, MEMBERS, NAMES, RECORD, ROWS, RULES, OwnAudit, closed_before, found_bars
from helper import front_of, groups_in, is_open, made_event, made_row, order, orders_in, prints, rest_of, seen_by
from helper import thirty_rows


def words_of(audit):
    """All that an audit tells of itself."""
    return (audit.rule, audit.members, audit.record, audit.view, audit.bars, audit.first, audit.broken, len(audit),
            str(audit), audit.log(), audit.table(), audit.counts())


def filled(rule, members, *events):
    audit = Audit(rule, members)
    audit.do_all(*events)
    return audit


class Case(unittest.TestCase):
    def fields(self, error, fields, deed):
        with self.assertRaises(error) as caught:
            deed()
        self.assertEqual(vars(caught.exception), fields)
        for name, value in fields.items():
            self.assertEqual(repr(vars(caught.exception)[name]), repr(value))

    def refused(self, audit, event, reason, deed):
        before, (started, finished) = words_of(audit)[:-1], audit.counts()
        self.fields(InvalidEvent, {"event": event, "reason": reason}, deed)
        self.assertEqual(words_of(audit)[:-1], before)
        self.assertEqual(audit.counts(), (started + 1, finished + 1))

    def refused_each_way(self, audit, event, reason):
        deeds = [lambda: audit.go(event), lambda: audit(event), lambda: audit.do_all(event)]
        if isinstance(event, tuple) and len(event) == 2 and event[0] in ("row", "join", "leave", "rule"):
            deeds.append(lambda: {"row": audit.add, "join": audit.let_in, "leave": audit.leave,
                                  "rule": audit.set_rule}[event[0]](event[1]))
        for deed in deeds:
            self.refused(audit, event, reason, deed)
        counts = audit.counts()
        self.fields(InvalidEvent, {"event": event, "reason": reason}, lambda: audit.tried(event))
        self.assertEqual(audit.counts(), counts)


class Beginnings(Case):
    def test_a_new_audit(self):
        for rule in RULES:
            for members in ((), ("ann",), ("ann", "zoe"), ("a", "b", "c", "d", "e")):
                audit = Audit(rule, members)
                self.assertEqual(words_of(audit), (
                    rule, members, (rule, ()), (rule, ()), (), None, (), 0, "-", (("audit", rule, members),), [],
                    (0, 0)))
                self.assertIs(type(audit), Audit)
        self.assertEqual(Audit("late").members, ())
        self.assertEqual(Audit(rule="late", members=("ann",)), Audit("late", ("ann",)))

    def test_class_values(self):
        self.assertEqual((Audit.MOST, Audit.ROWS, Audit.ORDERS, Audit.MEMBERS), (60, 30, 10, 5))
        self.assertEqual((Audit("time").MOST, Audit("time").MEMBERS), (60, 5))

    def test_what_is_not_usable(self):
        for thing in ANY_VALUES:
            if thing not in RULES:
                self.fields(NotUsable, {"word": "rule", "at": -1}, lambda: Audit(thing))
                self.fields(NotUsable, {"word": "rule", "at": -1}, lambda: Audit(thing, None))
            if thing not in ((), ("closed",)):
                self.fields(NotUsable, {"word": "members", "at": -1}, lambda: Audit("time", thing))
        for members in (("bob", "ann"), ("ann", "ann"), ["ann"], ("ann", "Bob"), ("ann", None), ("ann", True), "ann",
                        (("ann",),), ("abcdefghi",), ("f", "e", "d", "c", "b", "a"), {"ann"}, {"ann": 1}):
            self.fields(NotUsable, {"word": "members", "at": -1}, lambda: Audit("time", members))
        for members in (NAMES, tuple("abcdefghij")):
            self.fields(NotUsable, {"word": "many", "at": -1}, lambda: Audit("time", members))
            self.fields(NotUsable, {"word": "rule", "at": -1}, lambda: Audit("times", members))

    def test_properties_are_not_assigned(self):
        audit = Audit("time")
        for name in ("rule", "members", "record", "view", "bars", "first", "broken"):
            self.assertIsInstance(vars(Audit)[name], property)
            with self.assertRaises(AttributeError):
                setattr(audit, name, ())


class Events(Case):
    def test_the_example(self):
        audit = Audit('time', ('bob',))
        self.assertEqual([audit.add(row) for row in ROWS] + [audit.bars, audit.broken],
                         [(), (), (), (), (), (('front', 3, 0, 0, 2),)])
        self.assertEqual([audit.let_in('ann'), audit.first, audit.set_rule('late'), audit.set_rule('price'),
                          audit.bars],
                         [(('front', 3, 0, 0, 2),), ('front', 3, 0, 0, 2), (('ahead', 2, 1, 1, 0),), (), ()])
        self.refused(audit, ('leave', 'cy'), 'missing', lambda: audit.leave('cy'))

    def test_made_audits(self):
        rng = random.Random(71)
        brought = 0
        for k in range(60):
            members = tuple(sorted(rng.sample(NAMES, rng.randint(0, 4))))
            audit, own = Audit(RULES[k % 3], members), OwnAudit(RULES[k % 3], members)
            for _ in range(rng.randint(5, 30)):
                event = made_event(rng, own)
                reason = own.reason(event)
                if reason is None:
                    bars = self.done(rng, audit, event)
                    self.assertEqual(bars, own.lead(event))
                    brought += bars != ()
                else:
                    self.refused_each_way(audit, event, reason)
                self.compare(audit, own)
        self.assertGreater(brought, 50)

    def done(self, rng, audit, event):
        word, what = event
        by_name = {"row": ("row", audit.add), "join": ("member", audit.let_in), "leave": ("member", audit.leave),
                   "rule": ("word", audit.set_rule)}
        name, method = by_name[word]
        counts = audit.counts()
        bars = rng.choice((lambda: audit.go(event), lambda: audit.go(event=event), lambda: audit(event),
                           lambda: audit(event=event), lambda: method(what), lambda: method(**{name: what})))()
        self.assertEqual(audit.counts(), (counts[0] + 1, counts[1] + 1))
        self.assertIs(type(bars), tuple)
        return bars

    def compare(self, audit, own):
        rule, rows, members = own.parts()
        view, bars = own.view(), own.bars()
        self.assertEqual((audit.rule, audit.members, audit.record), (rule, members, (rule, rows)))
        self.assertEqual((audit.view, audit.bars), (view, bars))
        self.assertEqual(audit.first, min(bars, key=lambda bar: (bar[1], bar), default=None))
        self.assertEqual(audit.broken, found_bars((rule, rows)))
        self.assertEqual(len(audit), len(own.events))
        self.assertEqual(audit.log(), (own.beginning,) + tuple(own.events))
        self.assertEqual(str(audit), " / ".join(event_line(event) for event in own.events) or "-")
        self.assertEqual([audit[t] for t in range(len(rows))], list(view[1]))
        for bar in found_bars((rule, rows)) + bars:
            self.assertIs(bar in audit, bar in bars)

    def test_bars_that_are_new(self):
        audit = filled("time", ("ann", "bob"), *[("row", row) for row in ROWS])
        bar = ("front", 3, 0, 0, 2)
        self.assertEqual(audit.bars, (bar,))
        self.assertEqual(audit.add(prints()), ())
        self.assertEqual(audit.leave("bob"), ())
        self.assertEqual(audit.leave("ann"), ())
        self.assertEqual(audit.bars, ())
        self.assertEqual(audit.let_in("cy"), ())
        self.assertEqual(audit.let_in("ann"), (bar,))
        self.assertEqual(audit.set_rule("late"), ())
        self.assertEqual(audit.let_in("bob"), (("ahead", 2, 1, 1, 0),))
        self.assertEqual(audit.set_rule("time"), (bar,))

    def test_a_bar_that_shows_when_a_member_leaves(self):
        rows = (order("ann", "buy", 10, 2), order("bob", "buy", 10, 1), prints((10, 1, 0)), prints((10, 1, 1)))
        audit = filled("time", ("ann", "bob"), *[("row", row) for row in rows])
        self.assertEqual(audit.bars, (("ahead", 3, 0, 0, 1),))
        # bob is a stranger then, and nobody may stand ahead of ann, who is in front.
        self.assertEqual(audit.leave("bob"), (("front", 3, 0, 0, 2),))
        self.assertEqual(audit.let_in("bob"), (("ahead", 3, 0, 0, 1),))
        self.assertEqual(audit.leave("ann"), ())
        self.assertEqual(audit.bars, ())

    def test_members_without_orders(self):
        audit = Audit("time", ("zoe",))
        self.assertEqual(audit.add(ROWS[0]), ())
        self.assertEqual(audit.view, ("time", (prints(),)))
        audit.add(order("zoe", "buy", 9, 1))
        self.assertEqual(audit.view, ("time", (prints(), order("zoe", "buy", 9, 1))))

    def test_the_view_as_in_the_definition(self):
        for rule in RULES:
            _, rows = thirty_rows(rule)
            for group in groups_in(rows):
                audit = filled(rule, group, *[("row", row) for row in rows])
                self.assertEqual(audit.view, seen_by((rule, rows), group))
                self.assertEqual((audit.bars, audit.first, audit.broken), ((), None, ()))


class Reasons(Case):
    def test_shape(self):
        audit = Audit("time", ("ann",))
        for thing in ANY_VALUES + (["join", "bob"], ("join",), ("join", "bob", 1), ("Join", "bob"), ("add", prints()),
                                   ("audit", "time"), (True, "bob"), ("row", ["prints", ()]), ("join", ("bob",)), ((), ())):
            if thing != ("prints", ()):
                self.refused_each_way(audit, thing, "shape")
        for word in ("row", "join", "leave", "rule"):
            for thing in ANY_VALUES:
                right = {"row": (("closed",), ("cancel", 0), ("prints", ())), "rule": RULES}.get(word)
                if word in ("join", "leave"):
                    right = [name for name in ANY_VALUES if isinstance(name, str) and 1 <= len(name) <= 8
                             and name.isalpha() and name.islower()]
                if not (isinstance(thing, (str, tuple)) and thing in right):
                    self.refused_each_way(audit, (word, thing), "shape")
        self.refused_each_way(audit, ("row", ("cancel", True)), "shape")
        self.refused_each_way(audit, ("row", ("call", 9, ((0, True),))), "shape")

    def test_full(self):
        events = [("join", "bob"), ("leave", "bob")] * 30
        audit = filled("time", (), *events)
        self.assertEqual(len(audit), 60)
        for event in (("join", "bob"), ("leave", "bob"), ("rule", "time"), ("rule", "late"), ("row", prints()),
                      ("row", ("cancel", 5))):
            self.refused_each_way(audit, event, "full")
        self.refused_each_way(audit, ("join", "Bob"), "shape")
        self.refused_each_way(audit, None, "shape")
        audit.undo()
        self.refused_each_way(audit, ("join", "bob"), "there")
        self.assertEqual(audit.leave("bob"), ())

    def test_rows(self):
        rows = [order("ann", "buy", 1 + k, 1) for k in range(10)]
        for rule in RULES:
            audit = filled(rule, (), *[("row", row) for row in rows])
            self.refused_each_way(audit, ("row", order("ann", "buy", 3, 1)), "many")
            self.refused_each_way(audit, ("row", order("ann", "buy", 3, 1, (5, 9, 0))), "many")
            self.refused_each_way(audit, ("row", ("cancel", 10)), "row")
            self.refused_each_way(audit, ("row", ("closed",)), "row")
            self.refused_each_way(audit, ("row", ("call", None, ())), "row")
            self.refused_each_way(audit, ("row", prints((9, 1, 0))), "row")
            audit.do_all(*[("row", prints())] * 20)
            self.refused_each_way(audit, ("row", prints()), "long")
            self.refused_each_way(audit, ("row", order("ann", "buy", 3, 1)), "long")
            self.refused_each_way(audit, ("row", ("cancel", 10)), "long")
            audit.undo()
            self.refused_each_way(audit, ("row", order("ann", "buy", 3, 1)), "many")
            self.assertEqual(audit.add(("cancel", 9)), ())

    def test_members(self):
        audit = Audit("time", ("a", "b", "c", "d"))
        self.refused_each_way(audit, ("join", "a"), "there")
        audit.let_in("e")
        self.refused_each_way(audit, ("join", "e"), "there")
        self.refused_each_way(audit, ("join", "f"), "many")
        self.refused_each_way(audit, ("leave", "f"), "missing")
        audit.leave("b")
        self.refused_each_way(audit, ("leave", "b"), "missing")
        self.assertEqual(audit.let_in("f"), ())
        self.assertEqual(audit.members, ("a", "c", "d", "e", "f"))

    def test_rules(self):
        for rule in RULES:
            audit = Audit(rule)
            self.refused_each_way(audit, ("rule", rule), "same")
            for other in RULES:
                if other != rule:
                    self.assertEqual(filled(rule, (), ("rule", other)).rule, other)


class Asked(Case):
    def test_rows_of_the_view(self):
        audit = filled("time", ("bob",), *[("row", row) for row in ROWS])
        self.assertEqual([audit[t] for t in range(4)], list(seen_by(RECORD, ("bob",))[1]))
        for thing in ANY_VALUES + (4, 3.5, -4):
            if isinstance(thing, bool) or thing not in (0, 1, 2, 3):
                self.fields(NotUsable, {"word": "row", "at": thing}, lambda: audit[thing])
        self.fields(NotUsable, {"word": "row", "at": 0}, lambda: Audit("time")[0])

    def test_bars_in_an_audit(self):
        audit = filled("time", ("ann",), *[("row", row) for row in ROWS])
        self.assertIs(("front", 3, 0, 0, 2) in audit, True)
        for thing in ANY_VALUES + (("front", 3, False, 0, 2), ["front", 3, 0, 0, 2], ("front", 3, 0, 0, 1),
                                   ("front", 3, 0, 0), ("front", 3, 0, 0, 2, 2), ROWS[0]):
            self.assertIs(thing in audit, False)
        audit.leave("ann")
        self.assertNotIn(("front", 3, 0, 0, 2), audit)

    def test_it_is_not_iterated_over(self):
        audit = filled("time", ("ann",), *[("row", row) for row in ROWS])
        for deed in (lambda: iter(audit), lambda: list(audit), lambda: [row for row in audit], lambda: tuple(audit)):
            with self.assertRaises(TypeError):
                deed()

    def test_equal_audits(self):
        events = [("row", row) for row in ROWS] + [("join", "bob"), ("rule", "late")]
        one = filled("time", ("ann",), *events)
        other = Audit("time", ("ann",))
        for event in events:
            other.go(event)
        self.assertTrue(one == other)
        self.assertFalse(one != other)
        # Counts do not count, nor does what was taken back.
        other.do_all(("leave", "ann"), ("leave", "bob"))
        self.assertTrue(one != other)
        other.undo()
        other.undo()
        self.assertEqual(one, other)
        self.assertNotEqual(one.counts(), other.counts())
        for unequal in (filled("price", ("ann",), *events), filled("time", (), *events),
                        filled("time", ("ann",), *events[:-1]), filled("time", ("ann",), *events[::-1][:1]),
                        filled("time", ("ann",), events[0], *events[2:]), filled("time", ("ann", "cy"), *events)):
            self.assertFalse(one == unequal)
            self.assertTrue(unequal != one)

    def test_the_same_state_by_other_events(self):
        one = filled("time", ("ann",), ("join", "bob"))
        other = filled("time", ("bob",), ("join", "ann"))
        self.assertEqual((one.record, one.members), (other.record, other.members))
        self.assertNotEqual(one, other)
        self.assertNotEqual(filled("time", (), ("join", "ann"), ("join", "bob")),
                            filled("time", (), ("join", "bob"), ("join", "ann")))

    def test_other_values(self):
        audit = Audit("time", ("ann",))
        for thing in ANY_VALUES + (audit.log(), str(audit), audit.record, OwnAudit("time", ("ann",)), Audit):
            self.assertFalse(audit == thing)
            self.assertTrue(audit != thing)

    def test_true_beside_one(self):
        rows = (order("ann", "buy", 1, 1), ("cancel", 0))
        audit = filled("time", ("ann",), *[("row", row) for row in rows])
        self.refused_each_way(audit, ("row", order("ann", "buy", True, 1)), "shape")
        self.refused_each_way(audit, ("row", order("ann", "buy", 1, True)), "shape")
        self.refused_each_way(audit, ("row", prints((1, True, None))), "shape")
        self.assertEqual(audit, filled("time", ("ann",), *[("row", row) for row in rows]))

    def test_two_audits_with_equal_parts_tell_the_same(self):
        rng = random.Random(72)
        for k in range(30):
            own = OwnAudit(RULES[k % 3], ())
            while len(own.events) < 20:
                event = made_event(rng, own)
                if own.reason(event) is None:
                    own.lead(event)
            rule, rows, members = own.parts()
            one = filled(RULES[k % 3], (), *own.events)
            other = filled(rule, members, *[("row", row) for row in rows])
            self.assertEqual((one.record, one.view, one.bars, one.broken, one.table()),
                             (other.record, other.view, other.bars, other.broken, other.table()))
            for _ in range(10):
                event = made_event(rng, own)
                if own.reason(event) is None:
                    self.assertEqual(one.tried(event), other.tried(event))


class Taken(Case):
    def led(self):
        return filled("time", ("ann",), *[("row", row) for row in ROWS[:2]])

    def test_tried(self):
        audit = self.led()
        before = words_of(audit)
        self.assertEqual(audit.tried(), (audit.view, audit.bars))
        self.assertEqual(audit.tried(("row", ROWS[2]), ("row", ROWS[3])),
                         (seen_by(RECORD, ("ann",)), (("front", 3, 0, 0, 2),)))
        self.assertEqual(audit.tried(("row", ROWS[2]), ("row", ROWS[3]), ("leave", "ann")),
                         (seen_by(RECORD, ()), ()))
        self.fields(InvalidEvent, {"event": ("row", ("cancel", 7)), "reason": "row"},
                    lambda: audit.tried(("join", "bob"), ("row", ("cancel", 7)), ("join", "bob"), None))
        self.fields(InvalidEvent, {"event": ("join", "bob"), "reason": "there"},
                    lambda: audit.tried(("join", "bob"), ("join", "bob")))
        self.assertEqual(words_of(audit), before)
        self.assertIs(type(audit.tried()), tuple)

    def test_tried_on_made_audits(self):
        rng = random.Random(73)
        for k in range(40):
            own = OwnAudit(RULES[k % 3], ("ann", "bob"))
            audit = Audit(RULES[k % 3], ("ann", "bob"))
            while len(own.events) < 15:
                event = made_event(rng, own)
                if own.reason(event) is None:
                    own.lead(event)
            before = words_of(audit)
            self.assertEqual(audit.tried(*own.events), (own.view(), own.bars()))
            self.assertEqual(words_of(audit), before)
            self.assertEqual(audit.do_all(*own.events), 15)
            for many in range(14, -1, -1):
                self.assertEqual(audit.undo(), own.events[many])
                self.assertEqual((audit.view, audit.bars), (own.view(many), own.bars(many)))
                self.assertEqual((audit.rule, audit.record[1], audit.members), own.parts(many))
            self.assertEqual(words_of(audit)[:-1], before[:-1])
            self.assertEqual(audit.counts(), (16, 16))

    def test_undo(self):
        audit = self.led()
        self.assertEqual(audit.undo(), ("row", ROWS[1]))
        self.assertEqual(audit, filled("time", ("ann",), ("row", ROWS[0])))
        self.assertEqual(audit.undo(), ("row", ROWS[0]))
        before = words_of(audit)[:-1]
        for k in range(2):
            self.fields(NothingToUndo, {"steps": 0}, audit.undo)
            self.assertEqual(audit.counts(), (4 + k, 4 + k))
        self.assertEqual(words_of(audit)[:-1], before)
        self.assertEqual(audit.record, ("time", ()))

    def test_do_all(self):
        audit = Audit("time", ("ann",))
        self.assertEqual(audit.do_all(), 0)
        self.assertEqual(audit.do_all(*[("row", row) for row in ROWS]), 4)
        self.assertEqual(audit.counts(), (2, 2))
        self.assertEqual((audit.record, audit.bars), (RECORD, (("front", 3, 0, 0, 2),)))
        self.assertEqual(audit.do_all(("join", "bob"), keep=True), 1)
        self.assertEqual(audit.do_all(("leave", "bob"), keep=False), 1)
        self.assertEqual(audit.counts(), (4, 4))

    def test_do_all_with_an_error(self):
        events = [("row", ROWS[2]), ("join", "bob"), ("rule", "time"), ("row", ROWS[3]), None]
        for keep, many in ((False, 0), (True, 2)):
            audit = self.led()
            self.fields(InvalidEvent, {"event": ("rule", "time"), "reason": "same"},
                        lambda: audit.do_all(*events, keep=keep))
            self.assertEqual(audit, filled("time", ("ann",), *[("row", row) for row in ROWS[:2]], *events[:many]))
            self.assertEqual(audit.counts(), (2, 2))
        audit = self.led()
        self.fields(InvalidEvent, {"event": ("rule", "time"), "reason": "same"}, lambda: audit.do_all(*events))
        self.assertEqual(audit, self.led())
        for thing in ANY_VALUES:
            if thing != ("prints", ()):
                self.fields(InvalidEvent, {"event": thing, "reason": "shape"},
                            lambda: audit.do_all(("join", "bob"), thing))
        self.assertEqual(audit, self.led())

    def test_full_counts_those_before_in_the_same_call(self):
        events = [("join", "bob"), ("leave", "bob")] * 31
        for deed in (lambda: audit.do_all(*events), lambda: audit.tried(*events),
                     lambda: audit.do_all(*events, keep=False)):
            audit = Audit("time")
            self.fields(InvalidEvent, {"event": ("join", "bob"), "reason": "full"}, deed)
            self.assertEqual(len(audit), 0)
        self.fields(InvalidEvent, {"event": ("join", "bob"), "reason": "full"},
                    lambda: audit.do_all(*events, keep=True))
        self.assertEqual(len(audit), 60)
        audit.undo()
        self.fields(InvalidEvent, {"event": ("join", "cy"), "reason": "full"},
                    lambda: audit.tried(("leave", "bob"), ("join", "cy")))
        self.fields(InvalidEvent, {"event": ("join", "bob"), "reason": "there"}, lambda: audit.tried(*events))
        self.assertEqual(audit.tried(("leave", "bob")), (("time", ()), ()))

    def test_counts(self):
        audit = Audit("time", ("ann",))
        deeds = [lambda: audit.add(ROWS[0]), lambda: audit.let_in("bob"), lambda: audit.leave("bob"),
                 lambda: audit.set_rule("late"), lambda: audit.go(("row", ROWS[1])), lambda: audit(("join", "cy")),
                 audit.undo, lambda: audit.do_all(("rule", "time"), ("rule", "late")), audit.do_all]
        for k, deed in enumerate(deeds):
            deed()
            self.assertEqual(audit.counts(), (k + 1, k + 1))
        wrong = [lambda: audit.add(None), lambda: audit.let_in("ann"), lambda: audit.leave("bob"),
                 lambda: audit.set_rule("late"), lambda: audit.go(7), lambda: audit(()),
                 lambda: audit.do_all(None), lambda: audit.do_all(None, keep=True)]
        for k, deed in enumerate(wrong):
            with self.assertRaises(InvalidEvent):
                deed()
            self.assertEqual(audit.counts(), (10 + k, 10 + k))
        counts = audit.counts()
        for deed in (lambda: audit.view, lambda: audit.bars, lambda: audit.first, lambda: audit.broken, audit.table,
                     audit.log, audit.counts, audit.tried, lambda: str(audit), lambda: len(audit), lambda: audit[0],
                     lambda: 0 in audit, lambda: audit == audit, audit.least, audit.quiet, audit.rules, audit.day,
                     lambda: audit.shown_by(), lambda: audit.can_come(None), lambda: audit.ahead(0)):
            deed()
        self.assertEqual(audit.counts(), counts)
        self.assertIs(type(counts), tuple)

    def test_arguments_stay_as_they_are(self):
        events = [["row", ROWS[0]], ("row", [1]), [("join", "bob")]]
        before = copy.deepcopy(events)
        audit = Audit("time")
        for event in events:
            self.fields(InvalidEvent, {"event": event, "reason": "shape"}, lambda: audit.go(event))
        self.assertEqual(events, before)


class Table(Case):
    def test_the_example(self):
        audit = Audit('time', ('ann', 'bob'))
        audit.do_all(*[('row', row) for row in ROWS[:3]])
        self.assertEqual(audit.table(), [' 0 ann      buy    10    3    2 front',
                                         ' 1 bob      buy    10    2    2 open'])

    def line(self, view, n):
        rows = view[1]
        _, member, side, price, size, _ = rows[n]
        word = "gone"
        if is_open(rows, n, len(rows)):
            word = "open" if front_of(view, n, len(rows), 0) is None else "front"
        parts = [str(n).rjust(2), member.ljust(8), side.ljust(4), str(price).rjust(4), str(size).rjust(4),
                 str(rest_of(rows, n, len(rows))).rjust(4), word]
        return " ".join(parts)

    def test_made_audits(self):
        rng = random.Random(74)
        words = set()
        for k in range(60):
            own = OwnAudit(RULES[k % 3], MEMBERS[:rng.randint(0, 3)])
            audit = Audit(*own.beginning[1:])
            while len(own.events) < 15:
                event = made_event(rng, own)
                if own.reason(event) is None:
                    own.lead(event)
                    audit.go(event)
            view = own.view()
            table = audit.table()
            self.assertEqual(table, [self.line(view, n) for n in orders_in(view[1])])
            self.assertIs(type(table), list)
            words |= {line.split()[-1] for line in table}
        self.assertEqual(words, {"front", "open", "gone"})

    def test_a_new_list_each_time(self):
        audit = filled("time", ("ann",), ("row", ROWS[0]))
        audit.table().append("more")
        self.assertEqual(audit.table(), [" 0 ann      buy    10    3    3 open"])

    def test_wide_words(self):
        rows = [prints()] * 12 + [order("abcdefgh", "sell", 1000, 1000), order("a", "buy", 1, 12345), ("cancel", 12)]
        audit = filled("price", ("a", "abcdefgh"), *[("row", row) for row in rows])
        self.assertEqual(audit.table(), ["12 abcdefgh sell 1000 1000 1000 gone", "13 a        buy     1 12345 12345 open"])

    def test_nobody_is_in_front_by_other_rules(self):
        for rule, word in (("time", "front"), ("late", "open"), ("price", "open")):
            audit = filled(rule, ("ann",), ("row", ROWS[0]), ("row", prints((10, 1, 0))))
            self.assertEqual(audit.table(), [" 0 ann      buy    10    3    2 " + word])


class Advice(Case):
    def test_made_audits(self):
        rng = random.Random(75)
        for k in range(60):
            own = OwnAudit(RULES[k % 3], MEMBERS[:rng.randint(0, 3)])
            audit = Audit(*own.beginning[1:])
            while len(own.events) < 14:
                event = made_event(rng, own)
                if own.reason(event) is None:
                    own.lead(event)
                    audit.go(event)
            self.told(rng, audit, own)

    def told(self, rng, audit, own):
        rule, rows, _ = own.parts()
        record, view = (rule, rows), own.view()
        before = words_of(audit)
        for group in groups_in(rows):
            self.assertIs(audit.shown_by(*group), is_shown_by(record, group))
            self.assertIs(audit.shown_by(*group[::-1], *group), is_shown_by(record, group))
        self.assertEqual(audit.least(), least_groups(record))
        self.assertEqual(audit.quiet(), quiet_groups(record))
        self.assertEqual(audit.rules(), rules_of(view))
        self.assertEqual(audit.day(), day_for(view))
        for row in ANY_VALUES + (made_row(rng, view[1], False), made_row(rng, rows, closed_before(rows, len(rows)))):
            self.assertIs(audit.can_come(row), can_follow(view, row))
        for n in ANY_VALUES + tuple(range(len(rows) + 1)):
            if isinstance(n, int) and not isinstance(n, bool) and n in orders_in(view[1]):
                self.assertEqual(audit.ahead(n), went_ahead(view, n))
            else:
                self.fields(UnknownOrder, {"n": n}, lambda: audit.ahead(n))
        self.assertEqual(words_of(audit), before)

    def test_members_that_are_unknown(self):
        audit = filled("time", ("ann", "zoe"), *[("row", row) for row in ROWS])
        for thing in ANY_VALUES + ("zoe",):
            if thing != "ann":
                self.fields(UnknownMember, {"member": thing}, lambda: audit.shown_by(thing))
                self.fields(UnknownMember, {"member": thing}, lambda: audit.shown_by("bob", thing, "nobody"))

    def test_record_and_view(self):
        audit = filled("time", ("bob",), *[("row", row) for row in ROWS])
        self.assertEqual((audit.least(), audit.quiet()), ((("ann",),), (("bob",),)))
        self.assertEqual((audit.shown_by("ann"), audit.shown_by("bob"), audit.shown_by()), (True, False, False))
        self.assertEqual(audit.rules(), ("late", "price", "time"))
        self.assertIsNotNone(audit.day())
        self.assertEqual(audit.ahead(1), 3)
        self.fields(UnknownOrder, {"n": 0}, lambda: audit.ahead(0))
        self.assertTrue(audit.can_come(prints((10, 1, None))))
        audit.let_in("ann")
        self.assertEqual(audit.rules(), ("price",))
        self.assertIsNone(audit.day())
        self.assertEqual(audit.ahead(0), 2)
        self.assertFalse(audit.can_come(prints()))

    def test_by_name(self):
        audit = filled("time", ("bob",), *[("row", row) for row in ROWS])
        self.assertTrue(audit.can_come(row=prints()))
        self.assertEqual(audit.ahead(n=1), 3)


class Consequences(Case):
    def test_what_a_view_shows_the_view_of_more_shows(self):
        rng = random.Random(76)
        for k in range(40):
            own = OwnAudit(RULES[k % 3], ())
            while len(own.events) < 14:
                event = made_event(rng, own)
                if own.reason(event) is None:
                    own.lead(event)
            rule, rows, _ = own.parts()
            groups = groups_in(rows)
            shown = {group: filled(rule, group, *[("row", row) for row in rows]).bars for group in groups}
            broken = filled(rule, (), *[("row", row) for row in rows]).broken
            for group in groups:
                self.assertTrue(not shown[group] or broken)
                for part in groups:
                    if set(part) <= set(group) and shown[part]:
                        self.assertTrue(shown[group])
            if broken:
                self.assertTrue(any(shown[group] for group in groups if 1 <= len(group) <= 2))

    def test_by_a_row_each_bar_stays(self):
        rng = random.Random(77)
        for k in range(40):
            own = OwnAudit(RULES[k % 3], MEMBERS)
            audit = Audit(*own.beginning[1:])
            while len(own.events) < 12:
                event = made_event(rng, own)
                if event[0] == "row" and own.reason(event) is None:
                    own.lead(event)
                    before = audit.bars
                    audit.go(event)
                    self.assertLessEqual(set(before), set(audit.bars))


if __name__ == "__main__":
    unittest.main()
