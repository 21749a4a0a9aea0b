"""What the document promises over the whole program: its guarantees, and its points named Consequences."""

import itertools
import random
import unittest

from fairshown.answers import answers_to, can_follow, next_prints
from fairshown.audits import Audit
from fairshown.bars import bars_at, bars_of, first_bar
from fairshown.books import Book
from fairshown.calls import call_fills, call_prices
from fairshown.daychecker import lets_day
from fairshown.days import record_of
from fairshown.errors import InvalidEvent, InvalidPaper, NotUsable
from fairshown.explainchecker import lets_explained
from fairshown.explaining import day_for, explained_rows, is_explained
from fairshown.explainpapers import explain_paper
from fairshown.fronts import front_since, fronts_at, stood_before
from fairshown.groupchecker import lets_groups
from fairshown.grouppapers import group_paper
from fairshown.groups import first_row_shown, is_shown_by, least_groups, quiet_groups
from fairshown.holders import breached_rows, holders_at, nobody_shows, owners_of, receipts_of
from fairshown.recordchecker import lets_record
from fairshown.recordclasses import Beginning, Record, View
from fairshown.recordreadings import record_read, row_read
from fairshown.records import cut, members_of, open_at, seen, with_rule
from fairshown.recordtexts import record_text, row_text
from fairshown.replaying import replayed
from fairshown.rulechecker import lets_rules
from fairshown.rulepapers import rule_paper
from fairshown.rulings import rules_of
from fairshown.takings import takings
from fairshown.watching import Watch
from fairshown.witnesschecker import lets_witness
from fairshown.witnesses import witness_groups
from fairshown.witnesspapers import witness_paper

from helper import MEMBERS, NAMES, PRICES, RECORD, ROWS, RULES, Case, OwnAudit, SmallBooks, barred_records
from helper import called_records, changed, closed_before, crosses, first_fault, found_bars, groups_in, is_answer, led
from helper import made_days, made_event, made_records, made_row, open_in, order, orders_in, other_part, own_fills
from helper import part_at, places, prints, record_told, rest_of, seen_by, thirty_rows


def with_one_thing_changed(rng, record):
    """A record that differs from another one in one place; this one itself if none is found."""
    rule, rows = record
    for _ in range(40):
        t = rng.randrange(len(rows) + 1)
        row = made_row(rng, rows[:t], closed_before(rows, t))
        ways = list(places(record))[2:]
        way = rng.choice(ways)
        other = rng.choice((
            (rule, rows[:t] + (row,) + rows[t + 1:]), (rule, rows[:t] + (row,) + rows[t:]),
            (rule, rows[:t] + rows[t + 1:]), (rng.choice(RULES), rows), changed(record, way, other_part(rng, part_at(
                record, way)))))
        try:
            lets_record(other)
        except InvalidPaper:
            continue
        if other != record:
            return other
    return record


def all_records(seed, count):
    """Records of days, what some see of them, each with one thing changed, and made ones, by each rule."""
    rng = random.Random(seed)
    for day in made_days(seed, count):
        record = record_told(day)
        yield record
        yield with_one_thing_changed(rng, record)
        view = seen_by(record, rng.choice(groups_in(record[1])))
        yield with_one_thing_changed(rng, view)
        yield rng.choice(RULES), record[1]
    yield from made_records(seed, count, fair=0.7)
    yield from called_records(seed, count)
    yield from barred_records(seed, count // 4)


def pairs_of_groups(record):
    """All pairs of a group and a part of it."""
    groups = groups_in(record[1])
    return [(part, group) for group in groups for part in groups if set(part) <= set(group)]


def renamed(act, names):
    """An act in which orders are named as they are now; names has those that were named otherwise."""
    if act[0] == "order":
        return act[:5] + (tuple((x, size, names.get(name, name)) for x, size, name in act[5]),)
    if act[0] == "cancel":
        return "cancel", names.get(act[1], act[1])
    if act[0] == "call":
        return act[:2] + (tuple((names.get(name, name), size) for name, size in act[2]),)
    return act


def with_guest(day, n, t):
    """The day with a stranger's order of one lot just before the member's order of step n, cancelled as step t begins."""
    rule, steps = day
    last = len(steps[n]) - 1
    guest = order(None, *steps[n][last][2:4], 1)
    names = {(n, last): (n, last + 1)}
    names.update({(t, a): (t, a + 1) for a in range(len(steps[t]) if t < len(steps) else 0)})
    steps = [[renamed(act, names) for act in acts] for acts in steps]
    steps[n].insert(last, guest)
    if t < len(steps):
        steps[t].insert(0, ("cancel", (n, last)))
    return rule, tuple(tuple(acts) for acts in steps)


def ahead_of(day, n, t):
    """What stands ahead of the order of row n, at its side and price, before the acts of step t."""
    rule, steps = day
    name = n, len(steps[n]) - 1
    standing = led(day).before_step[t] if t < len(steps) else led(day).standing()
    there = [other for other, _, side, price, _ in standing if (side, price) == steps[n][name[1]][2:4]]
    return there[:there.index(name)]


class Guarantees(Case):
    def test_f1_explained_without_a_bar(self):
        told = {True: 0, False: 0}
        for record in all_records(301, 200):
            bars = bars_of(record)
            self.same(bars, found_bars(record))
            self.assertIs(is_explained(record), bars == ())
            day = day_for(record)
            told[day is None] += 1
            self.assertIs(day is None, bars != ())
            if day is not None:
                self.same(lets_day(day), len(record[1]))
                self.same(record_of(day), record)
                self.same(record_told(day), record)
        self.assertGreater(min(told.values()), 200)

    def test_f1_by_all_small_books(self):
        """Row by row all books that a few strangers can make are tried: no barred row has a book, and others have."""
        told = {True: 0, False: 0}
        for k, prices in enumerate(((10,), (10, 11), (9, 10, 11))):
            for rule, rows in list(made_records(302 + k, 400, many=6, fair=0.7, prices=prices)):
                books = SmallBooks(rule, rows)
                if books.is_too_great():
                    continue
                told[is_explained((rule, rows))] += 1
                self.assertEqual(books.longest(), explained_rows((rule, rows)), (rule, rows))
        self.assertGreater(min(told.values()), 50)

    def test_f2_beginnings(self):
        for record in all_records(303, 60):
            for t in range(len(record[1]) + 1):
                if is_explained(record):
                    self.assertTrue(is_explained(cut(record, t)))
                self.assertIs(is_explained(cut(record, t)), t <= explained_rows(record))

    def test_f3_more_of_them_see_no_less(self):
        for record in all_records(304, 60):
            barred = {group: bars_of(seen(record, group)) != () for group in groups_in(record[1])}
            for part, group in pairs_of_groups(record):
                self.assertTrue(barred[group] or not barred[part])
            few = [group for group in barred if 1 <= len(group) <= 2]
            self.assertIs(bars_of(record) != (), any(barred[group] for group in few))

    def test_f4_the_record_of_a_day(self):
        for day in made_days(305, 200):
            record = record_of(day)
            self.assertEqual(bars_of(record), ())
            for group in groups_in(record[1]):
                self.assertEqual(bars_of(seen(record, group)), ())

    def test_f5_in_front(self):
        """In front nobody is ahead, in this day or in others; who is not in front may have somebody ahead."""
        found = {True: 0, False: 0}
        for record in all_records(306, 90):
            record = "time", record[1]
            if not is_explained(record):
                continue
            day = day_for(record)
            for t in range(len(record[1]) + 1):
                for n in open_in(record[1], t):
                    in_front = front_since(record, n, t) is not None
                    found[in_front] += 1
                    if in_front:
                        self.assertEqual(ahead_of(day, n, t), [])
                    else:
                        other = with_guest(day, n, t)
                        self.same(record_told(other), record)
                        self.assertEqual(lets_day(other), len(record[1]))
                        self.assertIn((n, len(day[1][n]) - 1), ahead_of(other, n, t))
        self.assertGreater(min(found.values()), 100)

    def test_f5_in_days_by_chance(self):
        for day in made_days(307, 300):
            record = record_of(day)
            for t in range(len(record[1]) + 1):
                for n, _ in fronts_at(record, t):
                    self.assertEqual(ahead_of(day, n, t), [])

    def test_f6_answers_are_exact(self):
        rng = random.Random(308)
        told = {True: 0, False: 0}
        for record in all_records(309, 60):
            rule, rows = record
            for _ in range(6):
                row = made_row(rng, rows, closed_before(rows, len(rows)))
                longer = rule, rows + (row,)
                right = is_explained(record) and isinstance(first_fault(longer), int) and is_explained(longer)
                told[right] += 1
                self.assertIs(can_follow(record, row), right)
            fills = [(x, 1, n) for x in PRICES for n in [None] + orders_in(rows)]
            self.same(next_prints(record, PRICES), tuple(fill for fill in fills if is_answer(record, prints(fill))))
        self.assertGreater(min(told.values()), 100)

    def test_f6_answers_to_an_order(self):
        rng = random.Random(310)
        several = 0
        for record in made_records(311, 60, many=5, fair=0.95):
            side, price, size = rng.choice(("buy", "sell")), rng.choice(PRICES), rng.randint(1, 2)
            found = list(answers_to(record, "dan", side, price, size, PRICES, most=2))
            single = list(itertools.product(PRICES, (1, 2), [None] + orders_in(record[1])))
            tried = [()] + [(fill,) for fill in single] + list(itertools.product(single, repeat=2))
            right = [fills for fills in tried if sum(fill[1] for fill in fills) <= size
                     and is_answer(record, order("dan", side, price, size, *fills))]
            self.assertEqual(sorted(found, key=repr), sorted(right, key=repr))
            several += len(found) > 1
        self.assertGreater(several, 10)

    def test_f7_by_price(self):
        for record in all_records(312, 90):
            rules = rules_of(record)
            self.assertIs("price" in rules, rules != ())
            self.assertEqual(lets_rules(record, rule_paper(record)), rules)

    def test_f8_an_audit_tells_what_belongs_to_its_rows_and_members(self):
        rng = random.Random(313)
        for k in range(40):
            members = tuple(sorted(rng.sample(NAMES, rng.randint(0, 3))))
            audit, own = Audit(RULES[k % 3], members), OwnAudit(RULES[k % 3], members)
            for _ in range(15):
                event = made_event(rng, own)
                if own.reason(event) is None:
                    own.lead(event)
                    audit.go(event)
            record = audit.record
            view = seen(record, tuple(name for name in audit.members if name in members_of(record)))
            self.same((audit.view, audit.bars, audit.first, audit.broken),
                      (view, bars_of(view), first_bar(view), bars_of(record)))
            self.same((audit.least(), audit.quiet(), audit.rules(), audit.day()),
                      (least_groups(record), quiet_groups(record), rules_of(view), day_for(view)))
            self.assertTrue(replayed(audit.log()) == audit)


class Records(Case):
    def test_what_is_written_and_read(self):
        """[21]"""
        for record in all_records(321, 40):
            self.same(record_read(record_text(record)), record)
            self.assertEqual(record_text(record_read(record_text(record))), record_text(record))
            for row in record[1]:
                self.same(row_read(row_text(row)), row)

    def test_views_and_beginnings(self):
        """[21]"""
        for record in all_records(322, 30):
            rec = Record(*record)
            self.same(seen(record, members_of(record)), record)
            for part, group in pairs_of_groups(record):
                self.same(seen(seen(record, group), part), seen(record, part))
                self.assertTrue(View(View(rec, *group), *part) == View(rec, *part))
            for t in range(len(record[1]) + 1):
                self.assertEqual(lets_record(cut(record, t)), t)
                for group in groups_in(record[1][:t]):
                    self.same(seen(cut(record, t), group), cut(seen(record, group), t))
                    self.assertTrue(View(Beginning(rec, t), *group) == Beginning(View(rec, *group), t))

    def test_the_record_of_a_day(self):
        """[33]"""
        for rule, steps in made_days(323, 100):
            record = record_of((rule, steps))
            self.assertEqual(lets_record(record), len(steps))
            for s in range(len(steps) + 1):
                self.assertEqual(lets_day((rule, steps[:s])), s)
                self.same(record_of((rule, steps[:s])), cut(record, s))
            self.assertEqual(lets_day(("price", steps)), len(steps))
            self.same(record_of((rule, steps + ((),))), (rule, record[1] + (prints(),)))


class Books(Case):
    def made_books(self, seed, count, closed=False):
        rng = random.Random(seed)
        for k in range(count):
            book = Book(RULES[k % 3])
            if closed:
                book.close()
            for _ in range(rng.randint(1, 6)):
                book.order(rng.choice(("buy", "sell")), rng.choice(PRICES), rng.randint(1, 3))
            yield rng, book

    def test_an_open_book(self):
        """[24]"""
        for rng, book in self.made_books(331, 300):
            side, price, size = rng.choice(("buy", "sell")), rng.choice(PRICES), rng.randint(1, 9)
            rests = {n: (mark, rest) for n, _, mark, rest in book.resting()}
            fills = book.order(side, price, size)
            self.assertEqual(sum(fill[1] for fill in fills) + book.rest(book.came - 1), size)
            self.assertEqual([x for x, _, n in fills], [rests[n][0] for _, _, n in fills])
            self.assertEqual([x for x, _, _ in fills], sorted([x for x, _, _ in fills], reverse=side == "sell"))
            self.assertTrue(all(book.rest(n) == 0 for _, _, n in fills[:-1]))
            if book.best("buy") is not None and book.best("sell") is not None:
                self.assertLess(book.best("buy"), book.best("sell"))

    def test_takings(self):
        """[26]"""
        several = 0
        for rng, book in self.made_books(332, 150):
            asked = rng.choice(("buy", "sell")), rng.choice(PRICES), rng.randint(1, 6)
            found = list(takings(book, *asked))
            several += len(found) > 1
            single = {fill for fills in found for fill in fills}
            tried = itertools.chain(*[itertools.product(single, repeat=many) for many in range(4)])
            for fills in set(tried) | set(found):
                with book.trial():
                    if fills in found:
                        self.assertEqual(book.order_told(*asked, fills), fills)
                    else:
                        with self.assertRaises(NotUsable):
                            book.order_told(*asked, fills)
            free = Book("price")
            for _, side, price, rest in book.resting():
                free.order(side, price, rest)
            numbers = {n: k for k, n in enumerate(book)}
            every = list(takings(free, *asked))
            for fills in found:
                self.assertIn(tuple((x, size, numbers[n]) for x, size, n in fills), every)
            sums = {tuple(sorted((x, sum(size for y, size, _ in fills if x == y)) for x, _, _ in set(
                (x, 0, 0) for x, _, _ in fills))) for fills in found + every}
            self.assertEqual(len(sums), 1)
        self.assertGreater(several, 5)

    def test_calls(self):
        """[29]"""
        called = 0
        for rng, book in self.made_books(333, 200, closed=True):
            prices = call_prices(book)
            self.assertEqual(prices, tuple(range(prices[0], prices[-1] + 1)) if prices else ())
            for price in prices:
                for fills in itertools.islice(call_fills(book, price), 12):
                    called += 1
                    with book.trial():
                        book.call_told(price, fills)
                        rests = [(side, mark) for _, side, mark, _ in book.resting()]
                        buys = [mark for side, mark in rests if side == "buy"]
                        sells = [mark for side, mark in rests if side == "sell"]
                        self.assertTrue(all(mark <= price for mark in buys) and all(mark >= price for mark in sells))
                        self.assertTrue(all(buy < sell for buy in buys for sell in sells))
                        if buys and sells:
                            self.assertLess(book.best("buy"), book.best("sell"))
        self.assertGreater(called, 100)


class Fronts(Case):
    def test_who_is_in_front(self):
        """[36]"""
        for record in all_records(341, 60):
            rule, rows = record
            for n in orders_in(rows):
                since = [front_since(record, n, t) for t in range(len(rows) + 1) if n in open_at(record, t)]
                known = [f for f in since if f is not None]
                # It stays so as long as it is open, since the same row.
                self.assertEqual(since[len(since) - len(known):], known)
                self.assertLessEqual(len(set(known)), 1)
            for t in range(len(rows) + 1):
                fronts = fronts_at(record, t)
                if rule != "time":
                    self.assertEqual(fronts, ())
                elif is_explained(record):
                    self.assertEqual(len({rows[n][2:4] for n, _ in fronts}), len(fronts))

    def test_what_stood_before(self):
        """[36]"""
        days = list(made_days(342, 150))
        days += [day_for(record_of(day)) for day in days]
        for day in days:
            record = record_of(day)
            came = led(day).as_it_came
            for n in orders_in(record[1]):
                there = [rest for _, member, side, price, rest in came[(n, len(day[1][n]) - 1)]
                         if member is None and (side, price) == record[1][n][2:4]]
                self.assertGreaterEqual(sum(there), stood_before(record, n))


class Bars(Case):
    def test_where_there_are_none(self):
        """[38]"""
        for rule, rows in all_records(351, 60):
            for t in range(len(rows)):
                if closed_before(rows, t + 1):
                    self.assertEqual(bars_at((rule, rows), t), ())
                self.same(bars_at((rule, rows), t), bars_at((rule, rows[:t + 1]), t))

    def test_words_by_rule(self):
        """[38]"""
        own = {"time": {"front", "ahead"}, "late": {"first", "ahead"}, "price": set()}
        for _, rows in all_records(352, 60):
            bars = {rule: bars_of((rule, rows)) for rule in RULES}
            shared = [{bar for bar in bars[rule] if bar[0] not in ("front", "first", "ahead")} for rule in RULES]
            self.assertEqual(shared, shared[:1] * 3)
            for rule in RULES:
                self.assertLessEqual({bar[0] for bar in bars[rule]} & {"front", "first", "ahead"}, own[rule])
                self.assertTrue(bars[rule] or not bars["price"])

    def test_an_earlier_and_a_later_order(self):
        """[38]"""
        found = 0
        for rule, rows in itertools.chain(*[[("time", rows), ("late", rows)] for _, rows in all_records(353, 120)]):
            record = rule, rows
            for t, row in enumerate(rows):
                for i, (_, _, n) in enumerate(own_fills(row)):
                    for k in open_in(rows, t, i) if n is not None else ():
                        if k != n and rows[k][2:4] == rows[n][2:4]:
                            barred = any(bar[1:3] == (t, i) and bar[0] == "ahead" for bar in bars_at(record, t))
                            if rule == "time" and k < n or rule == "late" and k > n:
                                found += 1
                                self.assertTrue(barred)
        self.assertGreater(found, 10)

    def test_an_order_that_takes_as_it_comes(self):
        """[38]"""
        found = 0
        for record in itertools.chain(all_records(354, 60), made_records(354, 150, fair=0.0, prices=(10, 11))):
            for t, row in enumerate(record[1]):
                if row[0] == "order" and row[5] and any(record[1][k][2:4] == row[2:4] for k in open_in(record[1], t)):
                    found += 1
                    self.assertNotEqual(bars_at(record, t), ())
        self.assertGreater(found, 10)

    def test_explained_rows(self):
        """[41]"""
        for record in all_records(355, 60):
            first = first_bar(record)
            self.assertEqual(explained_rows(record), len(record[1]) if first is None else first[1])
            longer = record[0], record[1] + (prints(),)
            self.assertIs(is_explained(longer), is_explained(record))
            self.assertEqual(explained_rows(longer), len(longer[1]) if first is None else first[1])
        for day in made_days(356, 60):
            record = record_of(day)
            for group in groups_in(record[1]):
                self.assertTrue(is_explained(seen(record, group)))

    def test_a_watch(self):
        """[45]"""
        for record in all_records(357, 40):
            rule, rows = record
            watch = Watch(rule)
            for t, row in enumerate(rows):
                before = watch.bars
                would = watch.would(row)
                self.same(watch.lead(row), would)
                self.same(watch.bars, tuple(sorted(before + would)))
                beginning = cut(record, t + 1)
                self.same((watch.bars, watch.first, watch.standing, watch.fronts),
                          (bars_of(beginning), first_bar(beginning), open_at(beginning, t + 1),
                           fronts_at(beginning, t + 1)))
            for t in range(len(rows) - 1, -1, -1):
                before = watch.bars
                watch.back()
                self.same(watch.bars, tuple(bar for bar in before if bar[1] != t))

    def test_a_bar_needs_four_rows_at_most(self):
        """[46]"""
        for record in all_records(358, 60):
            for bar in bars_of(record):
                self.assertLessEqual(len(receipts_of(record, bar)), 4)
                self.assertIs(lets_explained(cut(record, bar[1] + 1), ("bar", bar)), False)
                self.assertIn(bar[1], receipts_of(record, bar))


class Groups(Case):
    def test_a_greater_group(self):
        """[49]"""
        for record in all_records(361, 40):
            for part, group in pairs_of_groups(record):
                row = first_row_shown(record, part)
                if row is not None:
                    self.assertLessEqual(first_row_shown(record, group), row)
            self.assertTrue(all(len(group) in (1, 2) for group in least_groups(record)))
            self.assertEqual(lets_groups(record, group_paper(record)),
                             (len(least_groups(record)), len(quiet_groups(record))))

    def test_who_holds_a_bar_sees_it(self):
        """[51]"""
        strange = 0
        for record in itertools.chain(all_records(362, 40), made_records(362, 200, many=12, fair=0.5, prices=(10,))):
            bars = bars_of(record)
            for group in groups_in(record[1]):
                view = seen(record, group)
                for bar in bars:
                    if set(owners_of(record, bar)) <= set(group):
                        self.assertIn(bar, bars_of(view))
                for bar in bars_of(view):
                    if bar not in bars:
                        strange += 1
                        self.assertLessEqual(first_bar(record)[1], bar[1])
                self.assertIs(nobody_shows(record, group), bars != () and bars_of(view) == ())
        self.assertGreater(strange, 0)

    def test_witnesses(self):
        """[60]"""
        for record in all_records(363, 40):
            least = witness_groups(record)
            self.assertIn(lets_witness(record, witness_paper(record)), least)
            for group in least:
                for t in breached_rows(record):
                    self.assertNotEqual(bars_at(seen(record, group), t), ())
            for part, group in pairs_of_groups(record):
                if part in least:
                    self.assertTrue(all(any(set(holder) <= set(group) for holder in holders_at(record, t))
                                        for t in breached_rows(record)))

    def test_rules(self):
        """[57]"""
        for record in all_records(364, 40):
            for part, group in pairs_of_groups(record):
                self.assertLessEqual(set(rules_of(seen(record, group))), set(rules_of(seen(record, part))))


class Answers(Case):
    def test_orders_that_cross_and_orders_that_do_not(self):
        """[54]"""
        told = {True: 0, False: 0}
        for record in all_records(371, 90):
            rule, rows = record
            if not is_explained(record) or closed_before(rows, len(rows)):
                continue
            for side, price in itertools.product(("buy", "sell"), PRICES):
                crossing = any(rows[n][2] != side and crosses(side, price, rows[n][3]) for n in open_in(rows, len(rows)))
                told[crossing] += 1
                self.assertIs(can_follow(record, order("dan", side, price, 2)), not crossing)
        self.assertGreater(min(told.values()), 100)

    def test_what_can_always_follow(self):
        """[54]"""
        for record in all_records(372, 60):
            for row in [prints()] + [("cancel", n) for n in open_at(record, len(record[1]))]:
                self.assertIs(can_follow(record, row), is_explained(record))

    def test_as_each_group_sees_it(self):
        """[54]"""
        rng = random.Random(373)
        found = 0
        for record in all_records(374, 60):
            rule, rows = record
            for _ in range(4):
                row = made_row(rng, rows, closed_before(rows, len(rows)))
                if not can_follow(record, row):
                    continue
                found += 1
                longer = rule, rows + (row,)
                for group in groups_in(longer[1]):
                    view = seen(longer, group)
                    self.assertTrue(can_follow((rule, view[1][:-1]), view[1][-1]))
        self.assertGreater(found, 100)


class Audits(Case):
    def audits(self, seed, count):
        rng = random.Random(seed)
        for k in range(count):
            audit = Audit(RULES[k % 3], tuple(sorted(rng.sample(MEMBERS, rng.randint(0, 2)))))
            own = OwnAudit(audit.rule, audit.members)
            for _ in range(18):
                event = made_event(rng, own)
                if own.reason(event) is None:
                    own.lead(event)
                    audit.go(event)
            yield rng, audit, own

    def test_views(self):
        """[69]"""
        for _, audit, _ in self.audits(381, 40):
            record = audit.record
            shown = {}
            for group in groups_in(record[1]):
                other = Audit(audit.rule, group)
                other.do_all(*[("row", row) for row in record[1]])
                shown[group] = other.bars != ()
                self.assertIs(audit.shown_by(*group), shown[group])
            for part, group in pairs_of_groups(record):
                self.assertTrue(shown[group] or not shown[part])
            few = [group for group in shown if 1 <= len(group) <= 2]
            self.assertIs(audit.broken != (), any(shown[group] for group in few))

    def test_bars_grow(self):
        """[69]"""
        for rng, audit, own in self.audits(382, 40):
            for _ in range(10):
                event = made_event(rng, own)
                if own.reason(event) is not None or event[0] not in ("row", "join"):
                    continue
                before = audit.bars
                own.lead(event)
                audit.go(event)
                if event[0] == "row":
                    self.assertLessEqual(set(before), set(audit.bars))
                else:
                    self.assertTrue(audit.bars or not before)

    def test_what_was_refused_changes_nothing(self):
        """[69]"""
        refused = 0
        for rng, audit, own in self.audits(383, 40):
            for _ in range(10):
                event = made_event(rng, own)
                before = audit.log(), audit.record, audit.members, audit.view, audit.bars
                if own.reason(event) is not None:
                    refused += 1
                    self.fields(InvalidEvent, {"event": event, "reason": own.reason(event)}, lambda: audit.go(event))
                    self.same((audit.log(), audit.record, audit.members, audit.view, audit.bars), before)
        self.assertGreater(refused, 50)

    def test_two_with_equal_parts(self):
        """[69]"""
        for rng, audit, own in self.audits(384, 40):
            other = Audit(audit.rule, audit.members)
            other.do_all(*[("row", row) for row in audit.record[1]])
            for _ in range(10):
                self.same((audit.record, audit.view, audit.bars, audit.broken, audit.table(), audit.least(), audit.day()),
                          (other.record, other.view, other.bars, other.broken, other.table(), other.least(), other.day()))
                event = made_event(rng, own)
                if own.reason(event) is None:
                    own.lead(event)
                    self.same(audit.go(event), other.go(event))
                else:
                    for one in (audit, other):
                        self.fields(InvalidEvent, {"event": event, "reason": own.reason(event)}, lambda: one.go(event))


class Limits(Case):
    def test_records_at_the_limits(self):
        """Thirty rows, ten orders and five members, with prices and sizes to a thousand and six fills in a row."""
        for rule in RULES:
            self.all_told(thirty_rows(rule))
            rows = thirty_rows(rule)[1][:29]
            self.all_told((rule, rows + (prints(*[(11 + k, 1000, None) for k in range(6)]),)))
        great = tuple(order(NAMES[k // 2], "buy", 1000 - k, 1000) for k in range(5)) + (prints(),) * 19
        great += tuple(order(NAMES[k // 2], "sell", 900 + k, 1000) for k in range(5))
        great += (prints(*[(900, 1000, None)] * 6),)
        for rule in RULES:
            self.all_told((rule, great))

    def all_told(self, record):
        """Papers of each kind are made and accepted, whatever the record shows."""
        self.assertEqual(lets_record(record), 30)
        self.assertIs(lets_explained(record, explain_paper(record)), is_explained(record))
        self.assertEqual(lets_groups(record, group_paper(record)),
                         (len(least_groups(record)), len(quiet_groups(record))))
        self.assertEqual(lets_rules(record, rule_paper(record)), rules_of(record))
        self.assertIn(lets_witness(record, witness_paper(record)), witness_groups(record))
        self.assertIs(is_shown_by(record, members_of(record)), not is_explained(record))
        self.assertEqual(str(Record(*record)), record_text(record))
        self.same(with_rule(record, record[0]), record)
        for n in orders_in(record[1]):
            self.assertEqual(Record(*record)(n, 30), rest_of(record[1], n, 30))

    def test_the_records_of_the_examples(self):
        self.assertEqual([holders_at(RECORD, 3), witness_groups(RECORD), rules_of(RECORD)],
                         [(("ann",),), (("ann",),), ("price",)])
        self.assertEqual(len(ROWS), 4)


if __name__ == "__main__":
    unittest.main()
