import copy
import unittest

from fairshown.bars import bars_of
from fairshown.errors import NotUsable, UnknownMember
from fairshown.holders import breached_rows, holders_at, nobody_shows, owners_of, receipts_of

from helper import ANY_VALUES, RECORD, ROWS, RULES, Case, barred_records, breached_in, found_bars, groups_in, is_held
from helper import least_of, made_days, order, owners_in, prints, record_told, seen_by, thirty_rows

BAR = ("front", 3, 0, 0, 2)


class OwnersAndReceipts(Case):
    def told(self, record, bar, owners, receipts):
        self.same(owners_of(record, bar), owners)
        self.same(receipts_of(record, bar), receipts)

    def test_the_example(self):
        self.told(RECORD, BAR, ("ann",), (0, 2, 3))

    def test_through(self):
        rows = (order("cy", "sell", 20, 1), order("ann", "buy", 10, 3), order("bob", "sell", 9, 1, (9, 1, None)))
        for rule in RULES:
            self.told((rule, rows), ("through", 2, 0, 1, None), ("ann",), (1, 2))
        rows = (("closed",), order("ann", "buy", 10, 3), order("bob", "buy", 9, 1), ("call", 9, ((2, 1),)))
        for rule in RULES:
            self.told((rule, rows), ("through", 3, 0, 1, None), ("ann",), (1, 3))

    def test_side(self):
        rows = (prints(), order("bob", "buy", 10, 3), order("ann", "buy", 10, 1, (10, 1, None)))
        for rule in RULES:
            self.told((rule, rows), ("side", 2, 0, 1, None), ("ann", "bob"), (1, 2))

    def test_ahead(self):
        rows = (order("bob", "buy", 10, 3), order("ann", "buy", 10, 3), order("cy", "sell", 10, 1, (10, 1, 1)))
        self.told(("time", rows), ("ahead", 2, 0, 0, 1), ("ann", "bob"), (0, 1, 2))
        rows = (("closed",), order("bob", "buy", 10, 3), order("ann", "buy", 10, 3), ("call", 10, ((1, 1),)))
        self.told(("late", rows), ("ahead", 3, 0, 2, 1), ("ann", "bob"), (1, 2, 3))

    def test_front(self):
        rows = (order("ann", "buy", 10, 3, (9, 1, None)), prints(), order("bob", "sell", 10, 1, (10, 1, None)))
        self.told(("time", rows), ("front", 2, 0, 0, 0), ("ann",), (0, 2))
        rows = (order("ann", "buy", 10, 3), prints((10, 1, 0), (10, 1, None)))
        self.told(("time", rows), ("front", 1, 1, 0, 1), ("ann",), (0, 1))

    def test_first(self):
        rows = (order("bob", "buy", 10, 2, (9, 1, None)), order("ann", "sell", 10, 2, (10, 1, 0), (10, 1, None)))
        self.told(("late", rows), ("first", 1, 1, 0, None), ("ann", "bob"), (0, 1))

    def test_short(self):
        rows = (order("bob", "buy", 10, 3), prints(), order("ann", "sell", 10, 3, (10, 1, 0), (10, 2, 0)))
        for rule in RULES:
            self.told((rule, rows), ("short", 2, 0, 2, 0), ("ann", "bob"), (0, 2))

    def test_worse(self):
        """Its j is a fill, not a row."""
        rows = (order("bob", "sell", 20, 1),) + (prints(),) * 3
        rows += (order("ann", "buy", 10, 9, (8, 1, None), (9, 1, None), (8, 1, None)),)
        for rule in RULES:
            self.told((rule, rows), ("worse", 4, 2, 4, 1), ("ann",), (4,))

    def test_crossed(self):
        rows = (order("bob", "buy", 10, 3), order("ann", "sell", 10, 3), prints(), prints())
        for rule in RULES:
            for t in (1, 2, 3):
                self.told((rule, rows), ("crossed", t, 0, 0, 1), ("ann", "bob"), tuple(sorted({0, 1, t})))

    def test_one_member_alone(self):
        rows = (order("ann", "buy", 10, 3), order("ann", "sell", 10, 3), prints())
        for rule in RULES:
            self.told((rule, rows), ("crossed", 2, 0, 0, 1), ("ann",), (0, 1, 2))

    def test_made_records(self):
        words = {}
        for record in barred_records(161, 900):
            for bar in bars_of(record):
                word, t, _, k, j = bar
                words[word] = words.get(word, 0) + 1
                rows = {t, k, j} if word in ("ahead", "crossed", "short", "front") else {t, k}
                self.told(record, bar, tuple(sorted(owners_in(record[1], bar))), tuple(sorted(rows)))
        self.assertEqual(len(words), 8)
        self.assertGreater(min(words.values()), 5, words)

    def test_no_bar(self):
        wrong = ANY_VALUES + (list(BAR), BAR + (0,), BAR[:4], ("front", 3, 0, 0, None), ("front", 3, False, 0, 2),
                              ("front", 3, 0, 0, 1), ("ahead", 3, 0, 0, 2), ("front", 2, 0, 0, 2), (BAR,), (None,) * 5,
                              (["front"], 3, 0, 0, 2), ("front", (3,), 0, 0, 2), ("front", 3, 0, 0, True))
        for thing in wrong:
            for function in (owners_of, receipts_of):
                self.fields(NotUsable, {"word": "bar", "at": -1}, lambda: function(RECORD, thing))
        for record in (("late", ROWS), ("price", ROWS), ("time", ROWS[:3]), ("time", ())):
            for function in (owners_of, receipts_of):
                self.fields(NotUsable, {"word": "bar", "at": -1}, lambda: function(record, BAR))

    def test_a_bar_of_what_others_see(self):
        """What bob sees can have a bar that the record has not."""
        record = ("time", (order("bob", "buy", 10, 2), order("ann", "buy", 10, 1), prints((10, 1, 0)), prints((10, 1, 1))))
        bar = ("front", 3, 0, 0, 2)
        self.same(owners_of(seen_by(record, ("bob",)), bar), ("bob",))
        self.fields(NotUsable, {"word": "bar", "at": -1}, lambda: owners_of(record, bar))
        self.told(record, ("ahead", 3, 0, 0, 1), ("ann", "bob"), (0, 1, 3))


class BreachedRows(Case):
    def test_the_example(self):
        self.same(breached_rows(RECORD), (3,))
        self.same(breached_rows(("late", ROWS)), (2,))
        self.same(breached_rows(("price", ROWS)), ())
        self.same(breached_rows(("time", ())), ())

    def test_made_records(self):
        many = set()
        for record in barred_records(162, 300):
            self.same(breached_rows(record), tuple(breached_in(record)))
            many.add(len(breached_rows(record)))
        self.assertGreater(max(many), 4)
        for rule in RULES:
            self.same(breached_rows(thirty_rows(rule)), ())


class HoldersAt(Case):
    def test_the_example(self):
        self.same([holders_at(RECORD, t) for t in range(4)], [(), (), (), (("ann",),)])

    def test_trying_all_groups(self):
        several = 0
        for record in barred_records(163, 300):
            for t in range(len(record[1])):
                held = least_of([group for group in groups_in(record[1]) if is_held(record, group, t)])
                self.same(holders_at(record, t), held)
                several += len(held) > 1
        self.assertGreater(several, 20)

    def test_least_groups_alone(self):
        rows = (order("ann", "buy", 10, 1), order("bob", "sell", 12, 1), order("cy", "sell", 10, 1),
                prints((9, 1, None)), prints((12, 1, None)))
        # ann and cy cross behind rows 2 to 4; at row 3 ann has a bar alone, at row 4 cy.
        for rule in RULES:
            self.same([holders_at((rule, rows), t) for t in range(5)],
                      [(), (), (("ann", "cy"),), (("ann",),), (("cy",),)])

    def test_several_least_groups(self):
        rows = (order("bob", "sell", 12, 1), order("ann", "sell", 11, 1), order("cy", "buy", 12, 1), prints((13, 1, None)))
        for rule in RULES:
            self.same([holders_at((rule, rows), t) for t in range(4)],
                      [(), (), (("ann", "cy"), ("bob", "cy")), (("ann",), ("bob",))])

    def test_no_index_of_a_row(self):
        for record in (RECORD, ("price", ROWS), ("late", ())):
            for thing in ANY_VALUES + (4, 5, -4, slice(0, 1)):
                if type(thing) is not int or not 0 <= thing < len(record[1]):
                    self.fields(NotUsable, {"word": "row", "at": -1}, lambda: holders_at(record, thing))


class NobodyShows(Case):
    def test_the_example(self):
        self.assertIs(nobody_shows(RECORD, ("bob",)), True)
        self.assertIs(nobody_shows(RECORD, ("ann",)), False)
        self.assertIs(nobody_shows(RECORD, ()), True)
        self.assertIs(nobody_shows(("price", ROWS), ()), False)

    def test_made_records(self):
        told = {True: 0, False: 0}
        for record in list(barred_records(164, 200)) + [record_told(day) for day in made_days(165, 30)]:
            for group in groups_in(record[1]):
                right = bool(found_bars(record)) and not found_bars(seen_by(record, group))
                told[right] += 1
                self.assertIs(nobody_shows(record, group), right)
                self.assertIs(nobody_shows(record, group[::-1] + group), right)
        self.assertGreater(min(told.values()), 100)

    def test_no_member(self):
        for record in (RECORD, ("price", ROWS), ("price", ())):
            there = {row[1] for row in record[1] if row[0] == "order"}
            for thing in ANY_VALUES + ("zoe", ("ann",), ["ann"]):
                if isinstance(thing, str) and thing in there:
                    continue
                for members in ((thing,), (*there, thing), (thing, "nobody")):
                    self.fields(UnknownMember, {"member": thing}, lambda: nobody_shows(record, members))


class Arguments(Case):
    def test_by_name(self):
        self.same((owners_of(bar=BAR, record=RECORD), receipts_of(bar=BAR, record=RECORD)), (("ann",), (0, 2, 3)))
        self.same((breached_rows(record=RECORD), holders_at(t=3, record=RECORD)), ((3,), (("ann",),)))
        self.assertIs(nobody_shows(members=("bob",), record=RECORD), True)

    def test_they_stay_as_they_are(self):
        thing = ["front", [3, 0], 0, 2]
        before = copy.deepcopy((thing, RECORD))
        for deed in (lambda: owners_of(RECORD, thing), lambda: receipts_of(RECORD, thing),
                     lambda: holders_at(RECORD, thing), lambda: nobody_shows(RECORD, (thing,))):
            with self.assertRaises((NotUsable, UnknownMember)):
                deed()
        self.same((thing, RECORD), before)

    def test_kinds_of_results(self):
        for result in (owners_of(RECORD, BAR), receipts_of(RECORD, BAR), breached_rows(RECORD), holders_at(RECORD, 3),
                       holders_at(RECORD, 3)[0]):
            self.assertIs(type(result), tuple)


if __name__ == "__main__":
    unittest.main()
