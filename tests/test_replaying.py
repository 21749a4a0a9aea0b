import copy
import random
import unittest

from fairshown.audits import Audit
from fairshown.desk import Desk
from fairshown.errors import InvalidEvent, NothingToUndo, NotUsable
from fairshown.eventreadings import read_event, read_log
from fairshown.eventtexts import event_line, log_lines
from fairshown.replaying import is_log, replayed

from helper import ANY_VALUES, NAMES, ROWS, RULES, Case, OwnAudit, changed, made_event, order, other_part, part_at
from helper import places, prints

BEGINNING = "audit", "time", ("bob",)
LOG = (BEGINNING,) + tuple(("row", row) for row in ROWS) + (("join", "ann"), ("rule", "late"), ("leave", "bob"))


def is_named(thing):
    return type(thing) is str and 1 <= len(thing) <= 8 and set(thing) <= set("abcdefghijklmnopqrstuvwxyz")


def is_whole(thing, least):
    return type(thing) is int and thing >= least


def are_fills(thing):
    return type(thing) is tuple and all(
        type(fill) is tuple and len(fill) == 3 and is_whole(fill[0], 1) and is_whole(fill[1], 1)
        and (fill[2] is None or is_whole(fill[2], 0)) for fill in thing)


def is_row(thing):
    """Whether any value is a row by form, in the tests' own words."""
    if type(thing) is not tuple or not thing or type(thing[0]) is not str:
        return False
    word, *parts = thing
    if word == "order" and len(parts) == 5:
        return (is_named(parts[0]) and type(parts[1]) is str and parts[1] in ("buy", "sell") and is_whole(parts[2], 1)
                and is_whole(parts[3], 1) and are_fills(parts[4]))
    if word == "call" and len(parts) == 2:
        price, pairs = parts
        if price is None:
            return type(pairs) is tuple and pairs == ()
        right = type(pairs) is tuple and all(type(pair) is tuple and len(pair) == 2 and is_whole(pair[0], 0)
                                             and is_whole(pair[1], 1) for pair in pairs)
        return is_whole(price, 1) and right and [n for n, _ in pairs] == sorted({n for n, _ in pairs})
    return (word == "closed" and not parts or word == "cancel" and len(parts) == 1 and is_whole(parts[0], 0)
            or word == "prints" and len(parts) == 1 and are_fills(parts[0]))


def is_event(thing):
    if type(thing) is not tuple or len(thing) != 2 or type(thing[0]) is not str:
        return False
    kinds = {"row": is_row, "join": is_named, "leave": is_named, "rule": lambda word: type(word) is str and word in RULES}
    return thing[0] in kinds and kinds[thing[0]](thing[1])


def is_written_log(thing):
    """Whether any value is a log, in the tests' own words."""
    if type(thing) is not tuple or not thing or type(thing[0]) is not tuple or len(thing[0]) != 3:
        return False
    word, rule, members = thing[0]
    if word != "audit" or type(rule) is not str or rule not in RULES or type(members) is not tuple:
        return False
    if not all(is_named(name) for name in members) or list(members) != sorted(set(members)) or len(members) > 5:
        return False
    return all(is_event(event) for event in thing[1:])


def made_log(rng, rule, many):
    """The log of an audit of the tests' own."""
    own = OwnAudit(rule, tuple(sorted(rng.sample(NAMES, rng.randint(0, 4)))))
    while len(own.events) < many:
        event = made_event(rng, own)
        if own.reason(event) is None:
            own.lead(event)
    return (own.beginning,) + tuple(own.events)


def made_logs(seed, count, many=12):
    rng = random.Random(seed)
    for k in range(count):
        yield made_log(rng, RULES[k % 3], rng.randint(0, many))


def led_audit(log):
    audit = Audit(*log[0][1:])
    audit.do_all(*log[1:])
    return audit


def words_of(audit):
    """All that an audit tells of itself, but for what it has counted."""
    return (audit.rule, audit.members, audit.record, audit.view, audit.bars, audit.first, audit.broken, len(audit),
            str(audit), audit.log(), audit.table(), audit.least(), audit.quiet(), audit.rules(), audit.day())


class IsLog(Case):
    def compared(self, thing):
        right = is_written_log(thing)
        self.assertIs(is_log(thing), right, thing)
        return right

    def test_logs_that_are_right(self):
        self.assertIs(is_log(LOG), True)
        for log in made_logs(181, 60):
            for k in range(1, len(log) + 1):
                self.assertTrue(self.compared(log[:k]))
            self.assertTrue(self.compared(led_audit(log).log()))

    def test_events_that_are_not_possible(self):
        for log in ((BEGINNING, ("leave", "ann")), (BEGINNING, ("join", "bob")), (BEGINNING, ("rule", "time")),
                    (BEGINNING, ("row", ("cancel", 7))), (BEGINNING, ("row", ("closed",)), ("row", ("closed",))),
                    (BEGINNING,) + (("join", "ann"), ("leave", "ann")) * 60, (BEGINNING,) + (("row", prints()),) * 99,
                    (BEGINNING,) + tuple(("join", name) for name in NAMES)):
            self.assertTrue(self.compared(log))

    def test_no_events(self):
        for rule in RULES:
            for members in ((), ("ann",), ("ann", "zoe"), ("a", "b", "c", "d", "e")):
                self.assertTrue(self.compared((("audit", rule, members),)))

    def test_beginnings_that_make_no_audit(self):
        for rule, members in (("slow", ()), (None, ()), ("time", ("bob", "ann")), ("time", ("ann", "ann")),
                              ("time", ["ann"]), ("time", None), ("time", "ann"), ("time", ("Ann",)), ("time", ("",)),
                              ("time", NAMES), ("time", tuple("abcdefg")), ("time", (True,)), (("time",), ()),
                              ("time", ("abcdefghi",)), (True, ()), ("Time", ())):
            self.assertFalse(self.compared((("audit", rule, members),)))
            self.assertFalse(self.compared((("audit", rule, members),) + LOG[1:]))
        for first in (("audit", "time"), ("audit", "time", (), ()), ("Audit", "time", ()), ("log", "time", ()),
                      ["audit", "time", ()], ("time", ()), ("join", "ann"), (None, "time", ()), (True, "time", ())):
            self.assertFalse(self.compared((first,)))
            self.assertFalse(self.compared((first,) + LOG[1:]))

    def test_other_kinds(self):
        for thing in ANY_VALUES + (BEGINNING, list(LOG), LOG[1:], LOG[::-1], (LOG,), LOG + (BEGINNING,), Audit("time"),
                                   (BEGINNING, Audit("time")), (Audit("time"),)):
            self.assertFalse(self.compared(thing))
        for thing in ANY_VALUES:
            self.assertFalse(self.compared((thing,)))
            self.assertFalse(self.compared(LOG + (thing,)))
            for word in ("row", "join", "leave", "rule", "audit", "undo", None):
                self.compared(LOG + ((word, thing),))
                self.compared((("audit", thing, ()),))
                self.compared((("audit", "time", thing),))

    def test_one_part_changed(self):
        rng = random.Random(182)
        told = {True: 0, False: 0}
        for log in list(made_logs(183, 90)) + [LOG] * 10:
            ways = list(places(log))
            for _ in range(20):
                way = rng.choice(ways)
                told[self.compared(changed(log, way, other_part(rng, part_at(log, way))))] += 1
        self.assertGreater(min(told.values()), 200)

    def test_any_value_at_any_depth(self):
        closed = (("audit", "price", ("ann",)), ("row", ("closed",)), ("row", order("ann", "buy", 10, 1)),
                  ("row", ("call", 10, ((1, 1),))))
        for log in (LOG, closed):
            for way in places(log):
                for thing in ANY_VALUES:
                    self.compared(changed(log, way, thing))

    def test_true_is_not_one(self):
        for row in (("cancel", True), order("ann", "buy", True, 1), order("ann", "buy", 1, True), prints((1, True, None)),
                    prints((1, 1, False)), ("call", True, ()), ("call", 1, ((True, 1),)), ("call", 1, ((1, True),))):
            self.assertFalse(self.compared((BEGINNING, ("row", row))))

    def test_a_hundred_events(self):
        self.assertTrue(self.compared((BEGINNING,) + (("row", ("cancel", 7)),) * 100))
        self.assertFalse(self.compared((BEGINNING,) + (("row", ("cancel", 7)),) * 99 + (None,)))


class Replayed(Case):
    def test_the_audit_whose_log_it_is(self):
        for log in made_logs(184, 60):
            before = copy.deepcopy(log)
            audit, led = replayed(log), led_audit(log)
            self.assertIs(type(audit), Audit)
            self.assertTrue(audit == led)
            self.assertIsNot(audit, replayed(log))
            self.same(audit.log(), log)
            self.same(words_of(audit), words_of(led))
            self.same(audit.counts(), (0, 0))
            self.same(log, before)
            self.assertTrue(replayed(audit.log()) == audit)

    def test_without_events(self):
        for rule in RULES:
            for members in ((), ("ann", "zoe")):
                audit = replayed((("audit", rule, members),))
                self.assertTrue(audit == Audit(rule, members))
                self.assertEqual((len(audit), audit.counts(), str(audit)), (0, (0, 0), "-"))
                self.fields(NothingToUndo, {"steps": 0}, audit.undo)
                self.assertEqual(audit.counts(), (1, 1))

    def test_the_first_error(self):
        for event, reason in ((("leave", "ann"), "missing"), (("join", "bob"), "there"), (("rule", "time"), "same"),
                              (("row", ("cancel", 7)), "row"), (("row", ("closed",)), "row"), (None, "shape"),
                              (("row", ["closed"]), "shape"), (("join", "Ann"), "shape"), (BEGINNING, "shape")):
            for log in (LOG[:2] + (event,), LOG[:3] + (event,), LOG[:3] + (event, ("leave", "zoe"), None) + LOG[3:]):
                self.fields(InvalidEvent, {"event": event, "reason": reason}, lambda: replayed(log))

    def test_too_many(self):
        pairs = (("join", "ann"), ("leave", "ann")) * 31
        self.fields(InvalidEvent, {"event": ("join", "ann"), "reason": "full"}, lambda: replayed((BEGINNING,) + pairs))
        self.assertEqual(len(replayed((BEGINNING,) + pairs[:60])), 60)
        self.fields(InvalidEvent, {"event": ("row", prints()), "reason": "long"},
                    lambda: replayed((BEGINNING,) + (("row", prints()),) * 31))
        orders = (("row", order("ann", "buy", 9, 1)),) * 11
        self.fields(InvalidEvent, {"event": orders[0], "reason": "many"}, lambda: replayed((BEGINNING,) + orders))
        joins = tuple(("join", name) for name in ("a", "c", "d", "e", "f"))
        self.fields(InvalidEvent, {"event": ("join", "f"), "reason": "many"}, lambda: replayed((BEGINNING,) + joins))

    def test_logs_that_do_not_begin_as_they_must(self):
        for thing in ANY_VALUES:
            if thing not in RULES:
                self.fields(NotUsable, {"word": "rule", "at": -1}, lambda: replayed((("audit", thing, None), None)))
            if thing not in ((), ("closed",)):
                log = (("audit", "time", thing), ("leave", "zoe"))
                self.fields(NotUsable, {"word": "members", "at": -1}, lambda: replayed(log))
        for members, word in ((("bob", "ann"), "members"), (("ann", "ann"), "members"), (NAMES[::-1], "members"),
                              (NAMES, "many"), (tuple("abcdefgh"), "many")):
            self.fields(NotUsable, {"word": word, "at": -1}, lambda: replayed((("audit", "late", members),) + LOG[1:]))

    def test_logs_that_were_read(self):
        """A read log need not be one of an audit: then the errors of Audit are raised."""
        self.fields(NotUsable, {"word": "members", "at": -1}, lambda: replayed(read_log(["audit time bob,ann"])))
        self.fields(NotUsable, {"word": "many", "at": -1}, lambda: replayed(read_log(["audit time a,b,c,d,e,f"])))
        self.fields(InvalidEvent, {"event": ("leave", "zoe"), "reason": "missing"},
                    lambda: replayed(read_log(["audit time -", "leave zoe"])))

    def test_told_undone_and_led_on(self):
        rng = random.Random(185)
        for log in made_logs(186, 40):
            audit, led = replayed(log), led_audit(log)
            for _ in range(rng.randint(0, len(log) - 1)):
                self.same(audit.undo(), led.undo())
                self.same(words_of(audit), words_of(led))
            own = OwnAudit(*log[0][1:])
            own.events = list(audit.log()[1:])
            for _ in range(6):
                event = made_event(rng, own)
                if own.reason(event) is None:
                    self.same(audit.tried(event), led.tried(event))
                    self.same(audit.go(event), led.go(event))
                    own.lead(event)
                else:
                    fields = {"event": event, "reason": own.reason(event)}
                    self.fields(InvalidEvent, fields, lambda: audit.go(event))
                    self.fields(InvalidEvent, fields, lambda: led.go(event))
                self.assertTrue(audit == led)
            self.assertEqual(audit.counts(), tuple(many - 1 for many in led.counts()))
            self.assertTrue(replayed(audit.log()) == audit)

    def test_by_name(self):
        self.assertIs(is_log(thing=LOG), True)
        self.assertEqual(replayed(log=LOG).log(), LOG)


class Words(Case):
    """Logs that are written, read, and replayed, and said to a desk."""

    def test_written_read_and_replayed(self):
        for log in made_logs(187, 40):
            lines = log_lines(log)
            self.assertTrue(all(type(line) is str for line in lines))
            self.same(read_log(lines), log)
            self.assertTrue(replayed(read_log(lines)) == led_audit(log))
            self.same(log_lines(replayed(read_log(lines)).log()), lines)
            self.same([read_event(line) for line in lines[1:]], list(log[1:]))

    def test_to_a_desk_and_back(self):
        for log in made_logs(188, 40):
            desk = Desk()
            self.assertEqual([desk.say(line) for line in log_lines(log)], ["ok"] * len(log))
            audit = replayed(log)
            self.assertEqual((desk.say("log"), desk.say("count"), desk.say("rule")),
                             (str(audit), str(len(audit)), audit.rule))
            if len(log) > 1:
                lines = desk.say("log").split(" / ")
                back = replayed(read_log(log_lines(log[:1]) + lines))
                self.assertTrue(back == audit)
                self.assertEqual(desk.say("undo"), event_line(audit.undo()))
                self.assertEqual(desk.say("log"), str(audit))

    def test_one_by_one_and_at_once(self):
        for log in made_logs(189, 30):
            one, all_at_once = Audit(*log[0][1:]), Audit(*log[0][1:])
            for event in log[1:]:
                one(event)
            self.assertEqual(all_at_once.do_all(*log[1:]), len(log) - 1)
            self.assertTrue(one == all_at_once == replayed(log))
            self.same((one.view, one.bars), Audit(*log[0][1:]).tried(*log[1:]))
            steps = []
            while len(one):
                steps.append(one.undo())
                self.assertTrue(one == replayed(log[:len(log) - len(steps)]))
            self.same(tuple(steps[::-1]), log[1:])
            self.assertTrue(one == Audit(*log[0][1:]))

    def test_errors_change_nothing(self):
        rng = random.Random(190)
        for log in made_logs(191, 30):
            audit = replayed(log)
            before = words_of(audit)
            for deed in (lambda: audit.go(None), lambda: audit.add(("cancel", 99)), lambda: audit.leave("nobody"),
                         lambda: audit.set_rule(audit.rule), lambda: audit.do_all(("join", "abc"), None),
                         lambda: audit.tried(("join", "abc"), None), lambda: audit.do_all(rng.choice(ANY_VALUES), None)):
                with self.assertRaises(InvalidEvent):
                    deed()
                self.same(words_of(audit), before)
            self.assertEqual(audit.counts(), (6, 6))


if __name__ == "__main__":
    unittest.main()
