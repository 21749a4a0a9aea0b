import inspect
import random
import unittest

from fairshown.errors import InvalidPaper, InvalidText, NotUsable, UnknownMember, UnknownOrder
from fairshown.recordchecker import lets_record
from fairshown.recordclasses import Beginning, Record, View
from fairshown.recordreadings import record_read
from fairshown.records import cut, members_of, open_at, rest_at, seen, with_rule
from fairshown.recordtexts import record_text

from helper import ANY_VALUES, Case, RECORD, ROWS, RULES, closed_before, first_fault, groups_in, made_days, made_records
from helper import made_row, open_in, opposite, order, orders_in, prints, record_told, rest_of, seen_by, thirty_rows

WRONG_TEXTS = ("", "record", "record slow", "record time\nnothing", "record late\nclosed\n", "record time\ncancel 5",
               "record time\nclosed\nclosed", "record price\norder ann buy 9 1 10*1@-", "record time\nprints 9*1@0",
               "closed", "record time\norder ann buy 9", "record time\ncall 9")


class Derived(Record):
    """A class of the tests' own below Record, which is made as a Record is."""


class Named(Record):
    """A class of the tests' own below Record, which is made of something else."""

    def __init__(self, name):
        Record.__init__(self, "time", (order(name, "buy", 10, 3),))
        self.name = name


def made(seed, count):
    """Records, those of days among them, each also as an object."""
    for record in list(made_records(seed, count, fair=0.7)) + [record_told(day) for day in made_days(seed, count // 4)]:
        yield record, Record(*record)


def each_kind(record):
    """Objects of all classes that are equal to the Record of a record."""
    rec = Record(*record)
    everybody = members_of(record)
    return [rec, Derived(*record), View(rec, *everybody), Beginning(rec, len(rec)),
            View(Beginning(rec, len(rec)), *everybody), Beginning(View(rec, *everybody), len(rec)),
            View(Derived(*record), *everybody[::-1])]


class Own(Case):
    def is_record(self, thing, form):
        """Exactly a Record, with this form."""
        self.assertIs(type(thing), Record)
        self.same(thing.form, form)


class Making(Own):
    def test_made_of_records(self):
        for record, rec in made(121, 120):
            self.is_record(rec, record)
            self.same((rec.rule, rec.rows), record)
            self.assertEqual(rec.members, members_of(record))
        for rule in RULES:
            self.is_record(Record(rule, ()), (rule, ()))
            self.is_record(Record(*thirty_rows(rule)), thirty_rows(rule))
            self.is_record(Record(rows=ROWS, rule=rule), (rule, ROWS))

    def test_any_values(self):
        for thing in ANY_VALUES + (Record("time", ()), Record("time", ROWS)):
            if thing not in RULES:
                self.fields(InvalidPaper, {"word": "shape", "at": -1}, lambda: Record(thing, ROWS))
            if thing != ():
                self.fields(InvalidPaper, {"word": "shape", "at": -1}, lambda: Record("time", thing))
                self.fields(InvalidPaper, {"word": "shape", "at": -1}, lambda: Record("time", ROWS + (thing, 7)))
            for other in ANY_VALUES:
                if thing not in RULES or other != ():
                    self.fields(InvalidPaper, {"word": "shape", "at": -1}, lambda: Record(thing, other))
        self.fields(InvalidPaper, {"word": "shape", "at": -1}, lambda: Record("time", list(ROWS)))
        self.fields(InvalidPaper, {"word": "shape", "at": -1}, lambda: Record("time", (("cancel", True),)))

    def test_the_errors_of_lets_record(self):
        rng = random.Random(122)
        words = set()
        for rule, rows in made_records(123, 500, fair=0.5):
            t = rng.randrange(len(rows))
            row = made_row(rng, rows[::-1], closed_before(rows, t))
            if rng.random() < 0.5 and rows[t][0] == "order":
                row = order(rows[t][1], opposite(rows[t][2]), *rows[t][3:5], *rows[t][5])
            wrong = rule, rows[:t] + (row,) + rows[t + 1:]
            fault = first_fault(wrong)
            if isinstance(fault, int):
                self.is_record(Record(*wrong), wrong)
            else:
                words.add(fault[0])
                self.fields(InvalidPaper, {"word": fault[0], "at": fault[1]}, lambda: Record(*wrong))
                with self.assertRaises(InvalidPaper):
                    lets_record(wrong)
        self.assertEqual(words, {"closed", "open", "side", "price", "size"})

    def test_properties_are_not_assigned(self):
        rec = Record(*RECORD)
        for thing, more in ((rec, ()), (View(rec, "ann"), ("source",)), (Beginning(rec, 2), ("source",))):
            before = thing.form
            for name in ("rule", "rows", "form", "members") + more:
                with self.assertRaises(AttributeError):
                    setattr(thing, name, "late")
            self.same(thing.form, before)

    def test_it_never_changes(self):
        for record, rec in made(124, 40):
            rng = random.Random(125)
            for deed in (lambda: rec + prints(), lambda: rec + None, lambda: rec & members_of(record), lambda: rec & "no",
                         lambda: rec.by("late"), lambda: rec.by(0), lambda: rec.cut(1), lambda: rec.cut(-1), lambda: rec[0],
                         lambda: rec[99], lambda: rec(0, 0), lambda: list(rec.walk()), lambda: str(rec),
                         lambda: View(rec), lambda: Beginning(rec, 0).later(), lambda: rec + made_row(rng, record[1], False)):
                try:
                    deed()
                except (InvalidPaper, NotUsable, UnknownMember, UnknownOrder):
                    pass
                self.is_record(rec, record)


class Asked(Own):
    def test_rows(self):
        for record, rec in made(126, 60):
            rows = record[1]
            self.same(tuple(rec[t] for t in range(len(rows))), rows)
            self.same(tuple(rec), rows)
            self.same([row for row in rec], list(rows))
            self.same(list(rec), list(rows))
            self.assertEqual(len(rec), len(rows))
            self.assertIs(type(len(rec)), int)
            for t in (-1, len(rows), len(rows) + 1, -len(rows), True, False, None, "0", 0.0, (0,), slice(0, 1)):
                self.fields(NotUsable, {"word": "row", "at": -1}, lambda: rec[t])
            self.assertEqual([row in rows for row in rec], [True] * len(rows))

    def test_no_index_of_a_row(self):
        for thing in ANY_VALUES + (4, Record("time", ())):
            if type(thing) is not int or not 0 <= thing < 4:
                self.fields(NotUsable, {"word": "row", "at": -1}, lambda: Record(*RECORD)[thing])
        self.fields(NotUsable, {"word": "row", "at": -1}, lambda: Record("time", ())[0])

    def test_walks_beside_each_other(self):
        rec = Record(*RECORD)
        self.assertEqual([(one, other) for one in rec for other in rec],
                         [(one, other) for one in ROWS for other in ROWS])

    def test_orders_in_it(self):
        for record, rec in made(127, 60):
            for n in range(-1, len(record[1]) + 2):
                self.assertIs(n in rec, n in orders_in(record[1]))
        rec = Record("time", (order("ann", "buy", 9, 1), order("ann", "buy", 9, 1), ("cancel", 0)))
        for thing in ANY_VALUES + (3, 1.0, rec, rec[0]):
            self.assertIs(thing in rec, type(thing) is int and thing in (0, 1), thing)

    def test_rests(self):
        for record, rec in made(128, 60):
            rows = record[1]
            for t in range(len(rows) + 1):
                for n in orders_in(rows):
                    self.assertEqual(rec(n, t), rest_of(rows, n, t))
                    self.assertEqual(rec(t=t, n=n), rest_at(record, n, t))

    def test_no_order_and_no_place(self):
        rec = Record(*RECORD)
        for thing in ANY_VALUES + (4, -4, rec):
            if type(thing) is not int or thing not in (0, 1):
                self.fields(UnknownOrder, {"n": thing}, lambda: rec(thing, 0))
                self.fields(UnknownOrder, {"n": thing}, lambda: rec(thing, None))
            if type(thing) is not int or not 0 <= thing <= 4:
                self.fields(NotUsable, {"word": "place", "at": -1}, lambda: rec(0, thing))
        self.fields(NotUsable, {"word": "place", "at": -1}, lambda: rec(0, 5))
        self.assertEqual(rec(0, 4), 2)

    def test_walk(self):
        for record, rec in made(129, 60):
            walk = rec.walk()
            self.assertTrue(inspect.isgenerator(walk))
            pairs = list(walk)
            self.assertEqual(pairs, [(t, tuple(open_in(record[1], t))) for t in range(len(record[1]) + 1)])
            self.assertEqual(pairs, [(t, open_at(record, t)) for t in range(len(record[1]) + 1)])
            self.assertTrue(all(type(pair) is tuple and type(pair[1]) is tuple for pair in pairs))
        self.assertEqual(list(Record("late", ()).walk()), [(0, ())])
        walk = Record(*RECORD).walk()
        self.assertEqual([next(walk), next(walk)], [(0, ()), (1, (0,))])

    def test_texts(self):
        for record, rec in made(130, 60):
            self.assertEqual(str(rec), record_text(record))
            self.assertEqual(f"{rec}", record_text(record))
            self.assertIs(type(str(rec)), str)
            for thing in each_kind(record):
                self.assertEqual(str(thing), record_text(record))


class Equal(Own):
    def test_of_whatever_class(self):
        for record, rec in made(131, 30):
            kinds = each_kind(record)
            longer = Record(record[0], record[1] + (prints(),))
            for one in kinds:
                for other in kinds:
                    self.assertIs(one == other, True)
                    self.assertIs(one != other, False)
                for rule in RULES:
                    self.assertIs(one == Record(rule, record[1]), rule == record[0])
                self.assertIs(one == longer, False)
                self.assertIs(longer != one, True)

    def test_other_values(self):
        for thing in ANY_VALUES + (RECORD, list(RECORD), str(Record(*RECORD)), Record, ROWS):
            for rec in each_kind(RECORD):
                self.assertIs(rec == thing, False)
                self.assertIs(rec != thing, True)
                self.assertIs(thing == rec, False)

    def test_named(self):
        self.assertIs(Named("ann") == Record("time", (order("ann", "buy", 10, 3),)), True)
        self.assertIs(Named("ann") == Named("bob"), False)
        self.assertIs(Record("time", (order("bob", "buy", 10, 3),)) == Named("bob"), True)


class Others(Own):
    """What +, &, by and cut return, beside the functions that say the same."""

    def kinds_of(self, record):
        return each_kind(record) + [Named("cy"), Named("ann") + prints()]

    def test_plus(self):
        rng = random.Random(132)
        told = {True: 0, False: 0}
        for record, rec in made(133, 120):
            for thing in each_kind(record)[:1] if rng.random() < 0.8 else self.kinds_of(record):
                rule, rows = thing.form
                row = made_row(rng, rows[:-1] if rng.random() < 0.3 else rows, closed_before(rows, len(rows)))
                fault = first_fault((rule, rows + (row,)))
                told[isinstance(fault, int)] += 1
                if isinstance(fault, int):
                    self.is_record(thing + row, (rule, rows + (row,)))
                else:
                    self.fields(InvalidPaper, {"word": fault[0], "at": fault[1]}, lambda: thing + row)
        self.assertGreater(min(told.values()), 20)

    def test_plus_any_value(self):
        for thing in ANY_VALUES + (ROWS, RECORD, Record(*RECORD), ["prints", ()], ("cancel", True)):
            for rec in self.kinds_of(RECORD):
                if thing == prints():
                    self.is_record(rec + thing, (rec.rule, rec.rows + (prints(),)))
                elif thing == ("cancel", 0) and thing[1] is not True:
                    self.is_record(rec + thing, (rec.rule, rec.rows + (("cancel", 0),)))
                elif thing == ("closed",):
                    self.fields(InvalidPaper, {"word": "closed", "at": len(rec)}, lambda: rec + thing)
                else:
                    self.fields(InvalidPaper, {"word": "shape", "at": -1}, lambda: rec + thing)

    def test_and(self):
        for record, rec in made(134, 60):
            for group in groups_in(record[1]):
                for thing in each_kind(record):
                    self.is_record(thing & group, seen_by(record, group))
                    self.is_record(thing & (group[::-1] + group), seen(record, group))
            for name in rec.members:
                self.is_record(rec & name, seen_by(record, (name,)))
                self.assertTrue(rec & name == rec & (name,) == View(rec, name))

    def test_and_any_value(self):
        for thing in ANY_VALUES + ("zoe", "dan", Record(*RECORD), ["ann"], {"ann"}):
            for rec in self.kinds_of(RECORD):
                asked = thing if isinstance(thing, tuple) else (thing,)
                unknown = [part for part in asked if not isinstance(part, str) or part not in rec.members]
                if unknown:
                    self.fields(UnknownMember, {"member": unknown[0]}, lambda: rec & thing)
                    self.fields(UnknownMember, {"member": unknown[0]}, lambda: rec & (rec.members + asked + ("no",)))
                else:
                    self.is_record(rec & thing, seen(rec.form, asked))
                if isinstance(thing, tuple):
                    self.fields(UnknownMember, {"member": thing}, lambda: rec & (thing,))

    def test_by(self):
        for record, rec in made(135, 30):
            for thing in each_kind(record):
                for rule in RULES:
                    self.is_record(thing.by(rule), with_rule(record, rule))
                    self.is_record(thing.by(rule=rule), (rule, record[1]))
        for thing in ANY_VALUES + (Record(*RECORD),):
            if thing not in RULES:
                for rec in self.kinds_of(RECORD):
                    self.fields(NotUsable, {"word": "rule", "at": -1}, lambda: rec.by(thing))

    def test_cut(self):
        for record, rec in made(136, 30):
            for thing in each_kind(record):
                for t in range(len(record[1]) + 1):
                    self.is_record(thing.cut(t), cut(record, t))
                    self.is_record(thing.cut(t=t), (record[0], record[1][:t]))
        for thing in ANY_VALUES + (5, Record(*RECORD)):
            if type(thing) is not int or not 0 <= thing <= 4:
                for rec in each_kind(RECORD):
                    self.fields(NotUsable, {"word": "row", "at": -1}, lambda: rec.cut(thing))

    def test_of_another_derived_class(self):
        named = Named("ann")
        self.is_record(named + prints(), ("time", (order("ann", "buy", 10, 3), prints())))
        self.is_record(named & "ann", named.form)
        self.is_record(named & (), ("time", (prints(),)))
        self.is_record(named.by("late"), ("late", named.rows))
        self.is_record(named.cut(0), ("time", ()))
        self.assertEqual((named.name, len(named), 0 in named), ("ann", 1, True))


class Texts(Own):
    def test_parsed(self):
        for record, rec in made(137, 60):
            self.is_record(Record.parsed(str(rec)), record)
            self.is_record(Record.parsed(text=record_text(record)), record)
            for kind in (Derived, View, Beginning, Named):
                self.is_record(kind.parsed(str(rec)), record)
            self.is_record(rec.parsed(str(rec)), record)
        for rule in RULES:
            self.is_record(Record.parsed("record " + rule), (rule, ()))

    def test_strings_that_write_no_record(self):
        errors = set()
        for text in WRONG_TEXTS + tuple(thing for thing in ANY_VALUES if isinstance(thing, str)):
            try:
                Record(*record_read(text))
            except InvalidText as error:
                right = InvalidText, {"line": error.line, "field": error.field}
            except InvalidPaper as error:
                right = InvalidPaper, {"word": error.word, "at": error.at}
            errors.add(right[0])
            for kind in (Record, Derived, View, Beginning, Named):
                self.fields(*right, lambda: kind.parsed(text))
        self.assertEqual(errors, {InvalidText, InvalidPaper})

    def test_the_errors_of_the_text_come_first(self):
        text = "record time\ncancel 5\nclosed"
        self.fields(InvalidPaper, {"word": "open", "at": 1 - 1}, lambda: Record.parsed(text))
        self.fields(InvalidText, {"line": 3, "field": 0}, lambda: Record.parsed(text + "\n"))

    def test_opened_and_shut(self):
        for rule in RULES:
            for kind in (Record, Derived, View, Beginning, Named):
                self.is_record(kind.opened(rule), (rule, ()))
                self.is_record(kind.shut(rule), (rule, (("closed",),)))
                self.is_record(kind.opened(rule=rule), (rule, ()))
                self.is_record(kind.shut(rule=rule), (rule, (("closed",),)))
            self.is_record(Record(rule, ROWS).opened(rule), (rule, ()))
        for thing in ANY_VALUES + (Record("time", ()),):
            if thing not in RULES:
                self.fields(InvalidPaper, {"word": "shape", "at": -1}, lambda: Record.opened(thing))
                self.fields(InvalidPaper, {"word": "shape", "at": -1}, lambda: Record.shut(thing))


class Views(Own):
    def test_by_all_groups(self):
        for record, rec in made(138, 60):
            for group in groups_in(record[1]):
                view = View(rec, *group)
                self.assertIs(type(view), View)
                self.assertIsInstance(view, Record)
                self.same(view.form, seen_by(record, group))
                self.same((view.rule, view.rows), view.form)
                self.assertEqual(view.members, group)
                self.assertIs(view.source, rec)
                self.is_record(view.lift(), record)
                self.assertIsNot(view.lift(), rec)
                self.assertTrue(view.lift() == rec == view.source)
                self.assertTrue(view == Record(*seen(record, group)) == rec & group)
                self.assertEqual(View(rec, *group[::-1], *group), view)

    def test_no_member(self):
        for rec in each_kind(RECORD):
            for thing in ANY_VALUES + ("zoe", "an", ("ann",), rec):
                if isinstance(thing, str) and thing in rec.members:
                    continue
                self.fields(UnknownMember, {"member": thing}, lambda: View(rec, thing))
                self.fields(UnknownMember, {"member": thing}, lambda: View(rec, "bob", thing, "nobody"))
        self.fields(UnknownMember, {"member": "ann"}, lambda: View(Record.opened("time"), "ann"))
        self.fields(UnknownMember, {"member": "bob"}, lambda: View(View(Record(*RECORD), "ann"), "ann", "bob"))

    def test_a_view_of_a_view(self):
        for record, rec in made(139, 40):
            for group in groups_in(record[1]):
                for part in groups_in(record[1]):
                    if set(part) <= set(group):
                        view = View(View(rec, *group), *part)
                        self.assertEqual(view, View(rec, *part))
                        self.assertEqual(view.source, View(rec, *group))
                        self.assertIs(type(view.source), View)
                        self.is_record(view.lift(), seen_by(record, group))
                        self.assertIs(view.source.source, rec)

    def test_of_a_beginning(self):
        for record, rec in made(140, 30):
            for t in range(len(rec) + 1):
                beginning = Beginning(rec, t)
                for group in groups_in(record[1][:t]):
                    view = View(beginning, *group)
                    self.same(view.form, (record[0], seen_by(record, group)[1][:t]))
                    self.assertEqual(view, Beginning(View(rec, *group), t))
                    self.assertIs(view.source, beginning)
                    self.is_record(view.lift(), beginning.form)

    def test_by_name(self):
        self.assertEqual(View(rec=Record(*RECORD)).form, seen(RECORD, ()))


class Beginnings(Own):
    def test_by_all_places(self):
        for record, rec in made(141, 60):
            for t in range(len(rec) + 1):
                beginning = Beginning(rec, t)
                self.assertIs(type(beginning), Beginning)
                self.assertIsInstance(beginning, Record)
                self.same(beginning.form, (record[0], record[1][:t]))
                self.same(beginning.later(), record[1][t:])
                self.assertIs(type(beginning.later()), tuple)
                self.assertIs(beginning.source, rec)
                self.assertEqual(beginning, rec.cut(t))
                whole = beginning
                for row in beginning.later():
                    whole = whole + row
                self.same(whole.form, record)

    def test_no_place(self):
        for rec in each_kind(RECORD):
            for thing in ANY_VALUES + (5, -4, rec):
                if type(thing) is not int or not 0 <= thing <= 4:
                    self.fields(NotUsable, {"word": "row", "at": -1}, lambda: Beginning(rec, thing))

    def test_of_a_beginning_and_of_a_view(self):
        for record, rec in made(142, 30):
            for t in range(len(rec) + 1):
                beginning = Beginning(rec, t)
                for s in range(t + 1):
                    part = Beginning(beginning, s)
                    self.same((part.rows, part.later()), (record[1][:s], record[1][s:t]))
                    self.assertIs(part.source, beginning)
                self.fields(NotUsable, {"word": "row", "at": -1}, lambda: Beginning(beginning, t + 1))
            for group in groups_in(record[1]):
                view = View(rec, *group)
                part = Beginning(view, len(rec) // 2)
                self.same(part.later(), seen_by(record, group)[1][len(rec) // 2:])
                self.assertIs(part.source, view)

    def test_by_name(self):
        self.assertEqual(Beginning(t=3, rec=Record(*RECORD)).later(), ROWS[3:])


class Consequences(Own):
    def test_what_is_read_of_what_is_written(self):
        for record, rec in made(143, 60):
            self.same(record_read(str(rec)), record)
            self.assertEqual(Record.parsed(str(rec)), rec)
            self.assertEqual(str(Record.parsed(str(rec))), str(rec))

    def test_all_members_see_the_record(self):
        for record, rec in made(144, 60):
            self.is_record(rec & rec.members, record)
            self.assertEqual(View(rec, *rec.members), rec)

    def test_a_beginning_is_a_record(self):
        for record, rec in made(145, 60):
            for t in range(len(rec) + 1):
                self.assertEqual(lets_record(cut(record, t)), t)
                for group in groups_in(record[1][:t]):
                    self.same(seen(cut(record, t), group), cut(seen(record, group), t))


class Arguments(Own):
    def test_they_stay_as_they_are(self):
        thing = ["ann", ["bob"], {"ann": [1]}]
        rec = Record(*RECORD)
        for deed in (lambda: Record(thing, thing), lambda: rec + thing, lambda: rec & thing, lambda: rec & (thing,),
                     lambda: rec.by(thing), lambda: rec.cut(thing), lambda: rec[thing], lambda: rec(thing, thing),
                     lambda: View(rec, thing), lambda: Beginning(rec, thing)):
            with self.assertRaises((InvalidPaper, NotUsable, UnknownMember, UnknownOrder)):
                deed()
        self.assertIs(thing in rec, False)
        self.assertEqual(thing, ["ann", ["bob"], {"ann": [1]}])

    def test_the_errors_keep_what_they_were_given(self):
        thing = ["zoe"]
        rec = Record(*RECORD)
        for deed in (lambda: rec & thing, lambda: rec & (thing,), lambda: View(rec, "ann", thing)):
            with self.assertRaises(UnknownMember) as caught:
                deed()
            self.assertIs(caught.exception.member, thing)
        with self.assertRaises(UnknownOrder) as caught:
            rec(thing, 0)
        self.assertIs(caught.exception.n, thing)


if __name__ == "__main__":
    unittest.main()
