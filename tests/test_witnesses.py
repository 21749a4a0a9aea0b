import copy
import itertools
import random
import unittest

from fairshown.bars import bars_at
from fairshown.errors import InvalidPaper
from fairshown.holders import breached_rows, holders_at
from fairshown.witnesschecker import lets_witness
from fairshown.witnesses import witness_groups
from fairshown.witnesspapers import witness_paper

from helper import ANY_VALUES, NAMES, RECORD, ROWS, RULES, Case, barred_records, breached_in, changed, found_bars
from helper import groups_in, is_held, made_days, made_records, order, other_part, owners_in, part_at, places, prints
from helper import record_told, seen_by, thirty_rows, with_names

BAR = ("front", 3, 0, 0, 2)

# cy crosses ann and bob behind rows 2 and 3, at row 3 ann and bob each have a bar alone, at row 6 dan has the only one.
SEVERAL = (order("ann", "buy", 10, 1), order("bob", "buy", 10, 1), order("cy", "sell", 10, 1), prints((9, 1, None)),
           ("cancel", 2), order("dan", "sell", 20, 1), prints((21, 1, None)))


def right_answer(record, thing):
    """What the checker has to return, or the fields of its error."""
    if type(thing) is not tuple or len(thing) != 2 or not all(type(half) is tuple for half in thing):
        return "shape", -1
    bars, misses = thing
    rows = breached_in(record)
    if len(bars) != len(rows):
        return "many", 0
    for k, bar in enumerate(bars):
        if repr(bar) not in [repr(one) for one in found_bars(record) if one[1] == rows[k]]:
            return "bar", (0, k)
    group = tuple(sorted(set().union(*[owners_in(record[1], bar) for bar in bars])))
    others = [other for other in groups_in(record[1]) if len(other) == len(group) - 1]
    if len(misses) != len(others):
        return "many", 1
    for k, t in enumerate(misses):
        if type(t) is not int or t not in rows:
            return "row", (1, k)
        if is_held(record, others[k], t):
            return "holds", (1, k)
    return group


def found_witnesses(record):
    """All groups with the least number of members that witness the record, found by trying all."""
    witnesses = [group for group in groups_in(record[1])
                 if all(is_held(record, group, t) for t in breached_in(record))]
    return tuple(group for group in witnesses if len(group) == min(map(len, witnesses)))


def records(seed, count):
    """Records with several breached rows and several members, and records without a bar."""
    rng = random.Random(seed)
    yield from barred_records(seed, count)
    for record in made_records(seed, count // 2, many=10, fair=0.7):
        yield with_names(rng, record, NAMES[:5])


class Own(Case):
    def paper_of(self, record):
        """Its paper, which is accepted with its group."""
        paper = witness_paper(record)
        bars, misses = paper
        for part in (paper, bars, misses):
            self.assertIs(type(part), tuple)
        rows = breached_in(record)
        self.assertEqual([bar[1] for bar in bars], rows)
        self.assertLessEqual({repr(bar) for bar in bars}, {repr(bar) for bar in found_bars(record)})
        group = tuple(sorted(set().union(*[owners_in(record[1], bar) for bar in bars])))
        self.assertIn(group, found_witnesses(record))
        self.same(right_answer(record, paper), group)
        self.same(lets_witness(record, paper), group)
        return paper

    def refused(self, record, thing, word, at):
        self.same(right_answer(record, thing), (word, at))
        self.fields(InvalidPaper, {"word": word, "at": at}, lambda: lets_witness(record, thing))

    def compared(self, record, thing):
        right = right_answer(record, thing)
        if right[:1] in (("shape",), ("many",), ("bar",), ("row",), ("holds",)):
            self.refused(record, thing, *right)
        else:
            self.same(lets_witness(record, thing), right)
        return right


class Groups(Own):
    def test_the_example(self):
        self.assertEqual([witness_groups(RECORD), lets_witness(RECORD, ((BAR,), (3,)))], [(('ann',),), ('ann',)])
        self.refused(RECORD, ((BAR,), (2,)), "row", (1, 0))

    def test_found_again_by_trying_all(self):
        many, wide = set(), set()
        for record in records(231, 400):
            found = witness_groups(record)
            self.same(found, found_witnesses(record))
            self.assertIs(type(found), tuple)
            many.add(len(found))
            wide.update(map(len, found))
        self.assertGreaterEqual(many, {1, 2})
        self.assertGreaterEqual(wide, {0, 1, 2, 3})

    def test_without_a_bar(self):
        for rule in RULES:
            for record in ((rule, ()), (rule, ROWS[:1]), thirty_rows(rule), (rule, (prints(), prints()))):
                self.same(witness_groups(record), ((),))
                self.same(self.paper_of(record), ((), ()))
        for day in made_days(232, 30):
            self.same(witness_groups(record_told(day)), ((),))

    def test_several(self):
        for rule in RULES:
            self.same(witness_groups((rule, SEVERAL)), (("ann", "cy", "dan"), ("bob", "cy", "dan")))
            rows = tuple(order(name, "buy", 10, 1) for name in NAMES[:5]) + (prints((9, 1, None)),)
            self.same(witness_groups((rule, rows)), tuple((name,) for name in NAMES[:5]))
            self.paper_of((rule, rows))

    def test_by_name(self):
        self.same(witness_groups(record=RECORD), (("ann",),))
        self.same(witness_paper(record=RECORD), ((BAR,), (3,)))
        self.same(lets_witness(thing=((BAR,), (3,)), record=RECORD), ("ann",))


class Papers(Own):
    def test_made_records(self):
        for record in records(233, 300):
            self.paper_of(record)

    def test_each_accepted_group_is_one_of_them(self):
        """All papers of small records are tried: the accepted groups are exactly the least ones."""
        tried = 0
        for record in barred_records(234, 200):
            rows = breached_in(record)
            bars = [[bar for bar in found_bars(record) if bar[1] == t] for t in rows]
            ways = 1
            for choice in bars:
                ways *= len(choice)
            if not rows or ways > 60 or len(groups_in(record[1])) > 8:
                continue
            tried += 1
            groups = set()
            for chosen in itertools.product(*bars):
                group = set().union(*[owners_in(record[1], bar) for bar in chosen])
                others = [other for other in groups_in(record[1]) if len(other) == len(group) - 1]
                misses = [[t for t in rows if not is_held(record, other, t)] for other in others]
                if all(misses):
                    groups.add(lets_witness(record, (chosen, tuple(found[-1] for found in misses))))
                else:
                    k = misses.index([])
                    wrong = tuple((found or rows)[0] for found in misses)
                    self.refused(record, (chosen, wrong), "holds", (1, k))
            self.assertEqual(tuple(sorted(groups)), witness_groups(record))
        self.assertGreater(tried, 40)


class Words(Own):
    def setUp(self):
        self.record = "price", SEVERAL
        self.bars, self.misses = self.paper_of(self.record)

    def test_the_paper(self):
        self.assertEqual([bar[1] for bar in self.bars], [2, 3, 6])
        # The groups of two are ann+bob, ann+cy, ann+dan, bob+cy, bob+dan, cy+dan.
        self.assertEqual(len(self.misses), 6)
        self.assertEqual(lets_witness(self.record, (self.bars, (2, 6, 2, 6, 2, 2))), ("ann", "cy", "dan"))
        self.assertEqual(lets_witness(self.record, (self.bars, (6, 6, 2, 6, 2, 2))), ("ann", "cy", "dan"))

    def test_shape(self):
        for thing in ANY_VALUES + ((self.bars,), (self.bars, self.misses, ()), [self.bars, self.misses],
                                   (list(self.bars), self.misses), (self.bars, list(self.misses)), (self.bars, None),
                                   (None, self.misses), (self.bars, 2), ("ab", "cd")):
            if thing != (("ann",), []):
                self.refused(self.record, thing, "shape", -1)

    def test_too_few_and_too_many_bars(self):
        for bars in ((), self.bars[:1], self.bars[:2], self.bars[1:], self.bars + self.bars[-1:], self.bars + (None,),
                     (None,) * 2, (None,) * 4):
            self.refused(self.record, (bars, self.misses), "many", 0)
            self.refused(self.record, (bars, ()), "many", 0)

    def test_bars_of_other_rows(self):
        self.refused(self.record, (self.bars[::-1], self.misses), "bar", (0, 0))
        self.refused(self.record, (self.bars[:1] * 3, self.misses), "bar", (0, 1))
        self.refused(self.record, (self.bars[:2] + self.bars[:1], self.misses), "bar", (0, 2))
        self.refused(self.record, ((("crossed", 3, 0, 0, 2),) + self.bars[1:], self.misses), "bar", (0, 0))

    def test_bars_of_none(self):
        for k in range(3):
            for thing in ANY_VALUES + (BAR, list(self.bars[k]), self.bars[k] + (0,), self.bars[k][:4], (self.bars[k],),
                                       ("bar", self.bars[k]), self.bars[k][:2] + (False,) + self.bars[k][3:],
                                       ("front",) + self.bars[k][1:], self.bars[k][:3] + (6, None)):
                self.refused(self.record, (self.bars[:k] + (thing,) + self.bars[k + 1:], self.misses), "bar", (0, k))

    def test_too_few_and_too_many_misses(self):
        for misses in ((), self.misses[:5], self.misses[1:], self.misses + self.misses[-1:], (None,) * 5, (None,) * 7):
            self.refused(self.record, (self.bars, misses), "many", 1)
        self.refused(("price", ROWS), ((), (2,)), "many", 1)
        self.refused(("price", ROWS), ((), (None,)), "many", 1)

    def test_rows_that_are_not_breached(self):
        for k in range(6):
            for thing in ANY_VALUES + (0, 1, 4, 5, 7, -1, True, False, (2,), "2", 2.0):
                if type(thing) is int and thing in (2, 3, 6):
                    continue
                self.refused(self.record, (self.bars, self.misses[:k] + (thing,) + self.misses[k + 1:]), "row", (1, k))
        crossed = ("price", (order("ann", "buy", 9, 1), order("bob", "sell", 9, 1)))
        self.same(lets_witness(crossed, ((("crossed", 1, 0, 0, 1),), (1, 1))), ("ann", "bob"))
        self.refused(crossed, ((("crossed", 1, 0, 0, 1),), (1, True)), "row", (1, 1))

    def test_a_group_that_holds_a_bar(self):
        # In their order the six groups of two hold bars of these rows.
        for k, rows in enumerate(((3,), (2, 3), (3, 6), (2, 3), (3, 6), (6,))):
            for t in (2, 3, 6):
                thing = self.bars, self.misses[:k] + (t,) + self.misses[k + 1:]
                if t in rows:
                    self.refused(self.record, thing, "holds", (1, k))
                else:
                    self.same(lets_witness(self.record, thing), ("ann", "cy", "dan"))

    def test_a_group_that_is_too_great(self):
        """A witness with a member more is refused by any misses."""
        bars = (("crossed", 2, 0, 1, 2), ("through", 3, 0, 0, None)) + self.bars[2:]
        self.same(right_answer(self.record, (bars, (2,) * 4))[0], "holds")
        for misses in itertools.product((2, 3, 6), repeat=4):
            self.fields(InvalidPaper, {"word": "holds", "at": right_answer(self.record, (bars, misses))[1]},
                        lambda: lets_witness(self.record, (bars, misses)))

    def test_the_words_come_in_their_order(self):
        self.refused(self.record, ((None,) * 3, ()), "bar", (0, 0))
        self.refused(self.record, (self.bars[:2] + (None,), (None,) * 6), "bar", (0, 2))
        self.refused(self.record, (self.bars[:2], (None,) * 6), "many", 0)
        self.refused(self.record, (self.bars, (None,) * 5), "many", 1)
        self.refused(self.record, (self.bars, self.misses[:2] + (None, 3) + self.misses[4:]), "row", (1, 2))
        self.refused(self.record, (self.bars, self.misses[:2] + (3, None) + self.misses[4:]), "holds", (1, 2))

    def test_without_a_bar(self):
        for rule in RULES:
            self.same(lets_witness((rule, ROWS[:2]), ((), ())), ())
            self.refused((rule, ROWS[:2]), ((BAR,), ()), "many", 0)
            self.refused((rule, ROWS[:2]), ((None,), (None,)), "many", 0)
            self.refused((rule, ROWS[:2]), ((), (0,)), "many", 1)


class Changed(Own):
    def test_in_one_place(self):
        rng = random.Random(235)
        words = {}
        for record in records(236, 200):
            paper = witness_paper(record)
            ways = list(places(paper))
            for _ in range(10):
                way = rng.choice(ways)
                other = other_part(rng, part_at(paper, way))
                if paper[1] and rng.random() < 0.5:
                    way = 1, rng.randrange(len(paper[1]))
                    other = rng.choice(breached_in(record) + [None, len(record[1])])
                right = self.compared(record, changed(paper, way, other))
                words[right[:1]] = words.get(right[:1], 0) + 1
        for word in ("shape", "many", "bar", "row", "holds"):
            self.assertGreater(words.get((word,), 0), 10, (word, words))

    def test_any_value_at_any_depth(self):
        for record in (RECORD, ("time", SEVERAL), ("late", ROWS[:2])):
            paper = witness_paper(record)
            for way in places(paper):
                for thing in ANY_VALUES:
                    self.compared(record, changed(paper, way, thing))


class Consequences(Own):
    def test_a_group_with_a_witness_in_it_is_one(self):
        for record in barred_records(237, 80):
            for least in witness_groups(record):
                for group in groups_in(record[1]):
                    if set(least) <= set(group):
                        held = [any(set(part) <= set(group) for part in holders_at(record, t))
                                for t in breached_rows(record)]
                        self.assertTrue(all(held))

    def test_what_a_witness_sees_has_a_bar_at_each_breached_row(self):
        for record in barred_records(238, 120):
            for group in witness_groups(record):
                view = seen_by(record, group)
                for t in breached_rows(record):
                    self.assertNotEqual(bars_at(view, t), ())

    def test_arguments_stay_as_they_are(self):
        thing = [[BAR], [3]]
        before = copy.deepcopy(thing)
        for wrong in (thing, (thing, ()), ((thing,), (3,)), ((BAR,), (thing,))):
            with self.assertRaises(InvalidPaper):
                lets_witness(RECORD, wrong)
        self.assertEqual(thing, before)


if __name__ == "__main__":
    unittest.main()
