import copy
import random
import unittest

from fairshown.errors import InvalidPaper
from fairshown.explainpapers import explain_paper
from fairshown.groupchecker import lets_groups
from fairshown.grouppapers import group_paper
from fairshown.groups import least_groups, quiet_groups

from helper import ANY_VALUES, MEMBERS, RECORD, ROWS, RULES, Case, barred_records, changed, explain_answer, found_bars
from helper import greatest_of, groups_in, least_of, made_days, made_records, order, other_part, part_at, places, prints
from helper import record_told, seen_by, thirty_rows

BAR = ("front", 3, 0, 0, 2)

# ann and bob show a breach together, cy alone; ann, dan and eve, and bob, dan and eve, are quiet.
FIVE = (order("ann", "buy", 10, 3), order("dan", "buy", 8, 1), order("eve", "sell", 14, 1), order("bob", "sell", 10, 3),
        ("cancel", 3), order("cy", "sell", 12, 1), prints((13, 1, None)))


def are_pairs(thing):
    return type(thing) is tuple and all(
        type(pair) is tuple and len(pair) == 2 and type(pair[0]) is tuple
        and all(type(name) is str and name.isascii() and name.isalpha() and name.islower() and len(name) < 9
                for name in pair[0]) for pair in thing)


def pair_fault(record, half, k, pairs):
    """What is wrong with pair k of shown (half 0) or of quiet (half 1), or None."""
    group, paper = pairs[k]
    if group not in groups_in(record[1]) or k > 0 and not pairs[k - 1][0] < group:
        return "group", (half, k)
    view = seen_by(record, group)
    if half == 0 and repr(paper) not in [repr(bar) for bar in found_bars(view)]:
        return "bar", (0, k)
    if half == 1 and explain_answer(view, paper) is not True:
        return "day", (1, k)
    return None


def right_answer(record, thing):
    """What the checker has to return, or the fields of its error."""
    if type(thing) is not tuple or len(thing) != 2 or not all(are_pairs(pairs) for pairs in thing):
        return "shape", -1
    for half in (0, 1):
        for k in range(len(thing[half])):
            fault = pair_fault(record, half, k, thing[half])
            if fault:
                return fault
    shown, quiet = [[set(group) for group, _ in pairs] for pairs in thing]
    for k, group in enumerate(shown):
        if any(other < group for other in shown):
            return "least", k
    for k, group in enumerate(quiet):
        if any(group < other for other in quiet):
            return "greatest", k
    for group in groups_in(record[1]):
        if not any(part <= set(group) for part in shown) and not any(set(group) <= whole for whole in quiet):
            return "open", group
    return len(shown), len(quiet)


class Own(Case):
    def compared(self, record, thing):
        right = right_answer(record, thing)
        if isinstance(right[0], int):
            self.same(lets_groups(record, thing), right)
        else:
            self.refused(record, thing, *right)
        return right

    def refused(self, record, thing, word, at):
        self.same(right_answer(record, thing), (word, at))
        self.fields(InvalidPaper, {"word": word, "at": at}, lambda: lets_groups(record, thing))


class Papers(Own):
    def paper_of(self, record):
        paper = group_paper(record)
        shown, quiet = paper
        groups = groups_in(record[1])
        showing = [group for group in groups if found_bars(seen_by(record, group))]
        self.assertEqual(tuple(group for group, _ in shown), least_of(showing))
        self.assertEqual(tuple(group for group, _ in quiet), greatest_of(set(groups) - set(showing)))
        self.assertEqual((least_of(showing), greatest_of(set(groups) - set(showing))),
                         (least_groups(record), quiet_groups(record)))
        for part in (paper, shown, quiet) + shown + quiet:
            self.assertIs(type(part), tuple)
        self.same(self.compared(record, paper), (len(shown), len(quiet)))
        return paper

    def test_the_example(self):
        paper = ((("ann",), BAR),), ((("bob",), explain_paper(seen_by(RECORD, ("bob",)))),)
        self.assertEqual(self.paper_of(RECORD), paper)
        self.refused(RECORD, (((("ann",), BAR),), ()), "open", ())

    def test_made_records(self):
        many = set()
        for record in list(barred_records(171, 240)) + list(made_records(172, 60)):
            shown, quiet = self.paper_of(record)
            many.update((len(shown), len(quiet)))
        self.assertGreaterEqual(many, {0, 1, 2, 3})

    def test_days_show_nothing(self):
        for day in made_days(173, 60):
            record = record_told(day)
            shown, quiet = self.paper_of(record)
            self.assertEqual((shown, len(quiet)), ((), 1))
            self.assertEqual(quiet[0][0], max(groups_in(record[1]), key=len))

    def test_no_members(self):
        for rule in RULES:
            for rows in ((), (prints((9, 1, None)),), (("closed",), ("call", None, ()))):
                shown, quiet = self.paper_of((rule, rows))
                self.assertEqual((shown, quiet[0][0], len(quiet)), ((), (), 1))
                self.refused((rule, rows), ((), ()), "open", ())

    def test_thirty_rows(self):
        for rule in RULES:
            self.assertEqual(len(self.paper_of(thirty_rows(rule))[1]), 1)
        rows = thirty_rows("time")[1][:29] + (prints((11, 1, None)),)
        self.assertEqual(len(self.paper_of(("time", rows))[0]), 1)

    def test_five_members(self):
        for rule in RULES:
            shown, quiet = self.paper_of((rule, FIVE))
            self.assertEqual([group for group, _ in shown], [("ann", "bob"), ("cy",)])
            self.assertEqual([group for group, _ in quiet], [("ann", "dan", "eve"), ("bob", "dan", "eve")])


class Words(Own):
    def setUp(self):
        self.record = "time", FIVE
        self.shown, self.quiet = group_paper(self.record)

    def day(self, *group):
        return group, explain_paper(seen_by(self.record, group))

    def bar(self, *group):
        return group, found_bars(seen_by(self.record, group))[0]

    def test_shape(self):
        for thing in ANY_VALUES + ((self.shown,), (self.shown, self.quiet, ()), [self.shown, self.quiet],
                                   (list(self.shown), self.quiet), (self.shown, list(self.quiet)),
                                   (self.shown + (("ann",),), self.quiet), (self.shown + (None,), self.quiet),
                                   (((["ann"], BAR),), ()), (((("ann",), BAR, BAR),), ()), ((("ann", BAR),), ()),
                                   (((("Ann",), BAR),), ()), (((("ann", None),),), ()), ((((True,), BAR),), ()),
                                   ((), (((("ann",),), None),)), ((), ((("abcdefghi",), None),)),
                                   (((("zoe",), None),), (None,)), ((((), None),), 7)):
            self.refused(self.record, thing, "shape", -1)

    def test_no_group(self):
        for group in (("zoe",), ("ann", "zoe"), ("bob", "ann"), ("ann", "ann"), ("cy", "cy"), ("eve", "dan"), ("an",)):
            self.refused(self.record, (((group, self.shown[0][1]),), ()), "group", (0, 0))
            self.refused(self.record, (self.shown + ((group, None),), self.quiet), "group", (0, 2))
            self.refused(self.record, (self.shown, ((group, None),)), "group", (1, 0))
            self.refused(self.record, (self.shown, self.quiet + ((group, None),)), "group", (1, 2))

    def test_groups_out_of_order(self):
        self.refused(self.record, (self.shown[::-1], self.quiet), "group", (0, 1))
        self.refused(self.record, (self.shown[:1] * 2, self.quiet), "group", (0, 1))
        self.refused(self.record, (self.shown, self.quiet[::-1]), "group", (1, 1))
        self.refused(self.record, (self.shown, self.quiet[:1] + self.quiet), "group", (1, 1))
        self.refused(self.record, (self.shown, self.quiet + ((("ann",), None),)), "group", (1, 2))

    def test_bars(self):
        for bar in ANY_VALUES + (BAR, self.shown[0][1], list(self.shown[1][1]), ("bar", self.shown[1][1]), self.quiet):
            self.refused(self.record, (self.shown[:1] + ((("cy",), bar),), self.quiet), "bar", (0, 1))
        # A bar of a greater group is none of a part of it, and what nobody sees has none.
        for group in ((), ("ann",), ("bob",), ("dan",), ("ann", "dan")):
            self.refused(self.record, (((group, self.shown[0][1]),), ()), "bar", (0, 0))

    def test_days(self):
        day = self.quiet[1][1]
        for paper in ANY_VALUES + (self.quiet[0][1], day[1], list(day), ("bar", day[1]), ("day", None), ("day", day),
                                   ("bar", self.shown[0][1]), explain_paper(self.record), day + day):
            self.refused(self.record, (self.shown, self.quiet[:1] + ((("bob", "dan", "eve"), paper),)), "day", (1, 1))
        # An accepted paper of the other form is none.
        view = seen_by(self.record, ("cy",))
        self.assertIs(explain_answer(view, explain_paper(view)), False)
        self.refused(self.record, (self.shown, ((("cy",), explain_paper(view)),)), "day", (1, 0))

    def test_least(self):
        for more, k in (((self.bar("ann", "bob", "cy"),), 1), ((self.bar("ann", "bob", "dan"),), 1)):
            self.refused(self.record, (self.shown[:1] + more + self.shown[1:], self.quiet), "least", k)
        self.refused(self.record, (self.shown + (self.bar("cy", "dan"),), self.quiet), "least", 2)
        self.refused(self.record, ((self.bar("ann", "bob", "cy"), self.bar("cy")), self.quiet), "least", 0)
        self.refused(self.record, ((self.bar("ann", "cy"), self.bar("ann", "cy", "dan"), self.bar("cy")), ()), "least", 0)

    def test_greatest(self):
        for more, k in (((self.day(),), 0), ((self.day("ann"),), 0), ((self.day("ann", "dan"),), 0)):
            self.refused(self.record, (self.shown, more + self.quiet), "greatest", k)
        self.refused(self.record, (self.shown, self.quiet + (self.day("eve"),)), "greatest", 2)
        self.refused(self.record, (self.shown, self.quiet[:1] + (self.day("bob", "dan"),) + self.quiet[1:]),
                     "greatest", 1)

    def test_open(self):
        self.refused(self.record, ((), ()), "open", ())
        self.refused(self.record, ((), self.quiet), "open", ("ann", "bob"))
        self.refused(self.record, (self.shown[:1], self.quiet), "open", ("ann", "cy"))
        self.refused(self.record, (self.shown[1:], self.quiet), "open", ("ann", "bob"))
        self.refused(self.record, (self.shown, ()), "open", ())
        self.refused(self.record, (self.shown, self.quiet[:1]), "open", ("bob",))
        self.refused(self.record, (self.shown, self.quiet[1:]), "open", ("ann",))
        self.refused(self.record, (self.shown, (self.day("ann", "dan"), self.day("ann", "eve")) + self.quiet[1:]),
                     "open", ("ann", "dan", "eve"))
        self.refused(self.record, ((self.bar("ann", "bob", "dan"), self.bar("cy")), self.quiet), "open", ("ann", "bob"))

    def test_the_words_come_in_their_order(self):
        """Of several faults the one that is stated first counts, and pair by pair all of one before the next."""
        bad_bar, bad_group, bad_day = (("cy",), None), (("zoe",), None), (("dan",), None)
        self.refused(self.record, ((bad_bar, bad_group), (bad_day,)), "bar", (0, 0))
        self.refused(self.record, ((bad_group, bad_bar), (bad_day,)), "group", (0, 0))
        self.refused(self.record, (self.shown, (bad_day, bad_group)), "day", (1, 0))
        self.refused(self.record, (self.shown, (bad_group, bad_day)), "group", (1, 0))
        contained = self.shown + (self.bar("cy", "dan"),)
        self.refused(self.record, (contained, (bad_day,)), "day", (1, 0))
        self.refused(self.record, (contained, (self.day("ann"), self.day("ann", "dan"))), "least", 2)
        self.refused(self.record, (self.shown, (self.day("ann"), self.day("ann", "dan"))), "greatest", 0)
        self.refused(self.record, (((bad_bar,), (None,))), "shape", -1)

    def test_papers_of_other_records(self):
        self.refused(("time", FIVE[:-1]), (self.shown, self.quiet), "bar", (0, 1))
        for rule in ("late", "price"):
            self.compared((rule, FIVE), (self.shown, self.quiet))


class Changed(Own):
    def test_in_one_place(self):
        rng = random.Random(174)
        words = {}
        for record in list(barred_records(175, 120)) + [("late", ROWS), ("time", FIVE), ("price", FIVE)] * 8:
            paper = group_paper(record)
            ways = list(places(paper))
            # Bars, groups and pairs are few beside the parts of days, but here they are what counts.
            ways = [way for way in ways if len(way) < 5] * 4 + ways
            for _ in range(12):
                way = rng.choice(ways)
                part = part_at(paper, way)
                other = rng.choice(MEMBERS) if isinstance(part, str) and rng.random() < 0.5 else other_part(rng, part)
                right = self.compared(record, changed(paper, way, other))
                words[right[0]] = words.get(right[0], 0) + 1
        for word in ("shape", "group", "bar", "day", "open"):
            self.assertGreater(words.get(word, 0), 10, (word, words))

    def test_any_value_at_any_depth(self):
        for record in (RECORD, ("late", ROWS[:3])):
            paper = group_paper(record)
            for way in places(paper):
                for thing in ANY_VALUES:
                    self.compared(record, changed(paper, way, thing))


class Consequences(Own):
    def test_a_greater_group_shows_it_at_the_same_row_or_before(self):
        for record in barred_records(176, 60):
            groups = groups_in(record[1])
            first = {group: min((bar[1] for bar in found_bars(seen_by(record, group))), default=99) for group in groups}
            for group in groups:
                for part in groups:
                    if set(part) <= set(group):
                        self.assertLessEqual(first[group], first[part])
            for group in least_groups(record):
                self.assertIn(len(group), (1, 2))

    def test_arguments(self):
        paper = group_paper(record=RECORD)
        self.same(lets_groups(thing=paper, record=RECORD), (1, 1))
        thing = [["ann"], [paper]]
        before = copy.deepcopy(thing)
        for wrong in (thing, (thing, thing), (((("ann",), thing),), ()), ((), ((("bob",), thing),))):
            with self.assertRaises(InvalidPaper):
                lets_groups(RECORD, wrong)
        self.assertEqual(thing, before)


if __name__ == "__main__":
    unittest.main()
