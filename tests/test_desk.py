import random
import unittest

from fairshown.audits import Audit
from fairshown.desk import Desk
from fairshown.errors import InvalidEvent, InvalidRow, NothingToUndo, NotUsable, UnknownOrder
from fairshown.eventtexts import event_line
from fairshown.recordtexts import row_text

from helper import ANY_VALUES, MEMBERS, ROWS, RULES, closed_before, made_row

BEGINNING = "audit time bob"
ROW_LINES = tuple("row " + row_text(row) for row in ROWS)
QUESTIONS = ("count", "log", "rule", "members", "rows", "table", "bars", "broken", "first", "shown", "least", "quiet",
             "rules")


def bar_word(bar):
    return "/".join("-" if part is None else str(part) for part in bar)


def spaced(words):
    return " ".join(words) if words else "-"


def answer_of(audit, row):
    """What the desk has to answer, asked of an audit."""
    groups = {"least": audit.least, "quiet": audit.quiet}
    if row in groups:
        return spaced([",".join(group) if group else "-" for group in groups[row]()])
    if row in ("bars", "broken"):
        return spaced([bar_word(bar) for bar in (audit.bars if row == "bars" else audit.broken)])
    return {
        "count": lambda: str(len(audit)), "log": lambda: str(audit), "rule": lambda: audit.rule,
        "members": lambda: spaced(audit.members), "rows": lambda: str(len(audit.record[1])),
        "table": lambda: " / ".join(audit.table()) if audit.table() else "-",
        "first": lambda: "-" if audit.first is None else bar_word(audit.first),
        "shown": lambda: "no" if audit.bars == () else "yes", "rules": lambda: spaced(audit.rules()),
    }[row]()


def made_event(rng, audit):
    rows = audit.record[1]
    deed = rng.random()
    if deed < 0.7:
        return "row", made_row(rng, rows, closed_before(rows, len(rows)))
    if deed < 0.85:
        return rng.choice(("join", "leave")), rng.choice(MEMBERS)
    return "rule", rng.choice(RULES)


class Case(unittest.TestCase):
    def refused(self, desk, error, fields, row):
        """Say a row that raises an error; the desk keeps what it had, but counts the call."""
        before, counts = self.state(desk), desk.counts()
        with self.assertRaises(error) as caught:
            desk.say(row)
        self.assertIs(type(caught.exception), error)
        self.assertEqual(vars(caught.exception), fields)
        self.assertEqual(desk.counts(), (counts[0] + 1, counts[1] + 1))
        self.assertEqual(self.state(desk), before)

    def state(self, desk):
        """All answers of a twin of the desk, so that nothing is counted; None before the first audit."""
        twin = Desk()
        vars(twin).update(vars(desk))
        try:
            return [twin.say(row) for row in QUESTIONS]
        except InvalidRow:
            return None

    def told(self, *rows):
        desk = Desk()
        for row in rows:
            self.assertEqual(desk.say(row), "ok")
        return desk


class Says(Case):
    def test_each_row_beside_an_audit(self):
        rng = random.Random(111)
        for k in range(40):
            members = tuple(sorted(rng.sample(MEMBERS, rng.randint(0, 2))))
            audit = Audit(RULES[k % 3], members)
            desk = self.told(f"audit {RULES[k % 3]} {','.join(members) or '-'}")
            for _ in range(14):
                self.lead(desk, audit, made_event(rng, audit))
            for row in QUESTIONS:
                answer = desk.say(row)
                self.assertEqual(answer, answer_of(audit, row), row)
                self.assertIs(type(answer), str)
            self.ask(desk, audit)
            while len(audit):
                self.assertEqual(desk.say("undo"), event_line(audit.undo()))
                self.assertEqual(desk.say("log"), str(audit))
            self.refused(desk, NothingToUndo, {"steps": 0}, "undo")

    def lead(self, desk, audit, event):
        try:
            audit.go(event)
            self.assertEqual(desk.say(event_line(event)), "ok")
        except InvalidEvent as error:
            self.refused(desk, InvalidEvent, {"event": event, "reason": error.reason}, event_line(event))

    def ask(self, desk, audit):
        rows = audit.view[1]
        for t, row in enumerate(rows):
            self.assertEqual(desk.say(f"at {t}"), row_text(row))
            if row[0] == "order":
                self.assertEqual(desk.say(f"ahead {t}"), str(audit.ahead(t)))
            else:
                self.refused(desk, UnknownOrder, {"n": t}, f"ahead {t}")
        for t in (len(rows), len(rows) + 1, 10 ** 60 - 1):
            self.refused(desk, NotUsable, {"word": "row", "at": t}, f"at {t}")
            self.refused(desk, UnknownOrder, {"n": t}, f"ahead {t}")

    def test_the_example_of_the_records(self):
        desk = self.told(BEGINNING, *ROW_LINES)
        answers = [desk.say(row) for row in QUESTIONS]
        self.assertEqual(answers, [
            "4", " / ".join(ROW_LINES), "time", "bob", "4", " 1 bob      buy    10    2    2 open", "-",
            "front/3/0/0/2", "-", "no", "ann", "bob", "late price time"])
        self.assertEqual([desk.say("at 0"), desk.say("at 2"), desk.say("ahead 1")],
                         ["prints", "prints 10*1@- 10*1@-", "3"])
        self.assertEqual(desk.say("join ann"), "ok")
        self.assertEqual([desk.say(row) for row in ("bars", "first", "shown", "rules", "members", "ahead 0")],
                         ["front/3/0/0/2", "front/3/0/0/2", "yes", "price", "ann bob", "2"])
        self.assertEqual(desk.say("table"),
                         " 0 ann      buy    10    3    2 front /  1 bob      buy    10    2    2 open")
        self.assertEqual(desk.say("rule late"), "ok")
        self.assertEqual((desk.say("bars"), desk.say("least"), desk.say("undo")),
                         ("ahead/2/1/1/0", "ann,bob", "rule late"))

    def test_bars_without_a_last_part(self):
        desk = self.told("audit time ann", "row order ann buy 10 1", "row prints 9*1@- 9*1@-")
        self.assertEqual(desk.say("bars"), "through/1/0/0/- through/1/1/0/-")
        self.assertEqual(desk.say("first"), "through/1/0/0/-")

    def test_nothing_is_answered_with_a_stroke(self):
        desk = self.told("audit price -")
        self.assertEqual([desk.say(row) for row in QUESTIONS],
                         ["0", "-", "price", "-", "0", "-", "-", "-", "-", "no", "-", "-", "late price time"])
        # No group shows a breach; the greatest quiet one is of nobody.
        audit = Audit("price")
        self.assertEqual((audit.least(), audit.quiet()), ((), ((),)))

    def test_no_rules(self):
        desk = self.told("audit time ann", "row order ann buy 10 1", "row prints 9*1@-")
        self.assertEqual(desk.say("rules"), "-")
        self.assertEqual(desk.say("quiet"), "-")

    def test_groups_of_several(self):
        desk = self.told("audit late ann,bob", *ROW_LINES)
        self.assertEqual((desk.say("least"), desk.say("quiet"), desk.say("shown")), ("ann,bob", "ann bob", "yes"))
        desk = self.told("audit price ann", *ROW_LINES)
        self.assertEqual((desk.say("least"), desk.say("quiet"), desk.say("shown")), ("-", "ann,bob", "no"))

    def test_by_name(self):
        desk = Desk()
        self.assertEqual(desk.say(row=BEGINNING), "ok")
        self.assertEqual(desk.say(row="count"), "0")


class NewAudits(Case):
    def test_a_new_audit_takes_the_place(self):
        desk = self.told(BEGINNING, *ROW_LINES)
        self.assertEqual(desk.say("audit late ann,zoe"), "ok")
        self.assertEqual([desk.say(row) for row in ("count", "rule", "members", "rows")], ["0", "late", "ann zoe", "0"])
        self.assertEqual(desk.counts(), (10, 10))

    def test_one_that_cannot_be_made_leaves_the_old_one(self):
        for desk in (self.told(BEGINNING, *ROW_LINES), self.told("audit late -"), Desk()):
            for members in ("bob,ann", "ann,ann", "f,e,d,c,b,a"):
                self.refused(desk, NotUsable, {"word": "members", "at": -1}, "audit time " + members)
            self.refused(desk, NotUsable, {"word": "many", "at": -1}, "audit time a,b,c,d,e,f")
        self.assertEqual(self.told("audit time a,b,c,d,e").say("members"), "a b c d e")

    def test_before_the_first_one(self):
        desk = Desk()
        self.assertEqual(desk.counts(), (0, 0))
        rows = QUESTIONS + ROW_LINES + ("undo", "at 0", "ahead 0", "join ann", "leave ann", "rule late", "nothing", "",
                                        "audit", "audit slow -", "audit time", "audit time -\n", "audit time - ")
        for k, row in enumerate(rows):
            self.refused(desk, InvalidRow, {"row": row}, row)
            self.assertEqual(desk.counts(), (k + 1, k + 1))
        self.refused(desk, NotUsable, {"word": "members", "at": -1}, "audit time b,a")
        for row in rows[:5]:
            self.refused(desk, InvalidRow, {"row": row}, row)
        self.assertEqual(desk.say(BEGINNING), "ok")
        self.assertEqual(desk.counts(), (len(rows) + 7, len(rows) + 7))

    def test_two_desks(self):
        one, other = self.told(BEGINNING), self.told("audit late -")
        one.say("join ann")
        self.assertEqual((one.say("members"), other.say("members"), other.counts()), ("ann bob", "-", (2, 2)))


class Refused(Case):
    def test_rows_that_are_not_possible(self):
        desk = self.told(BEGINNING, *ROW_LINES)
        rows = ["", " ", "nothing", "Count", "count ", " count", "count count", "count 1", "undo 1", "undo ", "undo\n",
                "at", "at ", "at  1", "at -", "at x", "at 1 ", "at 1 1", "at\t1", "ahead", "ahead ", "ahead -", "ahead x",
                "ahead 0 0", "rows 1", "table -", "bars\n", "\nbars", "bars bars", "row", "row nothing", "row cancel",
                "row cancel 01", "join", "join Ann", "join ann ", "join ann bob", "rule slow", "rules time",
                "leave", "audit", "audit time", "audit slow -", "audit time bob,", "audit time -\n", "audit time - -",
                "1", "1 at", "first 0", "say 1", "row prints 9*0@-", "closed", "prints", "cancel 0", "-", "ok", "log\n",
                "shown?", "at 1\n", "ahead 1\n", "join ann\n", "row closed\n", "and 1", "row 1", "join 1", "rule 1"]
        for row in rows + [row + "x" for row in QUESTIONS] + [row + "\n" for row in QUESTIONS]:
            self.refused(desk, InvalidRow, {"row": row}, row)

    def test_any_strings(self):
        desk = self.told(BEGINNING)
        for thing in ANY_VALUES:
            if isinstance(thing, str):
                self.refused(desk, InvalidRow, {"row": thing}, thing)

    def test_numbers_that_are_written_otherwise(self):
        desk = self.told(BEGINNING, *ROW_LINES)
        for number in ("00", "01", "-1", "+1", "1.0", "1_0", "0x1", "1e0", "9" * 61, "0" * 60, "one", "\u0661", "1,"):
            for word in ("at ", "ahead "):
                self.refused(desk, InvalidRow, {"row": word + number}, word + number)
        self.refused(desk, NotUsable, {"word": "row", "at": 10 ** 60 - 1}, "at " + "9" * 60)
        self.refused(desk, UnknownOrder, {"n": 10 ** 60 - 1}, "ahead " + "9" * 60)

    def test_the_errors_of_the_audit(self):
        desk = self.told(BEGINNING, *ROW_LINES)
        for row, reason in (("join bob", "there"), ("leave ann", "missing"), ("rule time", "same"),
                            ("row closed", "row"), ("row cancel 7", "row"), ("row call - ", None)):
            if reason is None:
                self.refused(desk, InvalidRow, {"row": row}, row)
            else:
                words = row.split(" ")
                what = {"row closed": ("closed",), "row cancel 7": ("cancel", 7)}.get(row, words[1])
                self.refused(desk, InvalidEvent, {"event": (words[0], what), "reason": reason}, row)
        self.refused(self.told("audit time -"), NothingToUndo, {"steps": 0}, "undo")

    def test_full(self):
        desk = self.told("audit time -", *["join ann", "leave ann"] * 30)
        self.refused(desk, InvalidEvent, {"event": ("join", "ann"), "reason": "full"}, "join ann")
        self.refused(desk, InvalidRow, {"row": "join Ann"}, "join Ann")
        self.assertEqual(desk.say("undo"), "leave ann")
        self.assertEqual((desk.say("members"), desk.say("count")), ("ann", "59"))


class Counts(Case):
    def test_behind_each_call(self):
        desk = Desk()
        many = 0
        for row in ("count", BEGINNING) + ROW_LINES + QUESTIONS + ("nothing", "join bob", "undo", "at 9", "at 0", "audit"):
            try:
                desk.say(row)
            except (InvalidRow, InvalidEvent, NotUsable):
                pass
            many += 1
            self.assertEqual(desk.counts(), (many, many))
            self.assertIs(type(desk.counts()), tuple)
        self.assertEqual(many, 25)


if __name__ == "__main__":
    unittest.main()
