import copy
import unittest

from fairshown.errors import UnknownMember
from fairshown.groups import first_row_shown, is_shown_by, least_groups, quiet_groups

from helper import ANY_VALUES, RECORD, ROWS, RULES, found_bars, greatest_of, groups_in, least_of, made_days, made_records
from helper import order, record_told, seen_by, thirty_rows


# ann and bob show nothing alone: only together do they know two orders that cross.
PAIR = (order("ann", "buy", 10, 3), order("cy", "buy", 9, 1), order("bob", "sell", 10, 3), ("prints", ()))


def shown_groups(record):
    return [group for group in groups_in(record[1]) if found_bars(seen_by(record, group))]


class Groups(unittest.TestCase):
    def test_two_members_who_cross(self):
        for rule in RULES:
            record = rule, PAIR
            self.assertEqual(least_groups(record), (("ann", "bob"),))
            self.assertEqual(quiet_groups(record), (("ann", "cy"), ("bob", "cy")))
            for group, row in (((), None), (("ann",), None), (("ann", "bob"), 2), (("bob", "cy"), None),
                               (("ann", "bob", "cy"), 2)):
                self.assertEqual(first_row_shown(record, group), row)
                self.assertIs(is_shown_by(record, group), row is not None)

    def test_groups_ascend_as_tuples(self):
        """ann and cy together come before bob alone."""
        rows = (order("bob", "buy", 12, 1), ("prints", ((11, 1, None),)), ("cancel", 0)) + PAIR[:1] + (
            order("dan", "buy", 9, 1), order("cy", "sell", 10, 3))
        for rule in RULES:
            self.assertEqual(least_groups((rule, rows)), (("ann", "cy"), ("bob",)))
            self.assertEqual(quiet_groups((rule, rows)), (("ann", "dan"), ("cy", "dan")))

    def test_one_member(self):
        self.assertEqual([least_groups(RECORD), quiet_groups(RECORD)], [(("ann",),), (("bob",),)])
        self.assertEqual([least_groups(("late", ROWS)), quiet_groups(("late", ROWS))],
                         [(("ann", "bob"),), (("ann",), ("bob",))])
        self.assertEqual([first_row_shown(("late", ROWS), group) for group in ((), ("ann",), ("bob", "ann"))],
                         [None, None, 2])

    def test_nobody_shows_an_explained_record(self):
        for rule in RULES:
            record = thirty_rows(rule)
            self.assertEqual(least_groups(record), ())
            self.assertEqual(quiet_groups(record), (("ann", "bob", "cy", "dan", "eve"),))

    def test_no_members(self):
        for rows in ((), (("prints", ((10, 1, None), (3, 1, None))),), (("closed",), ("call", None, ()))):
            record = ("time", rows)
            self.assertEqual([least_groups(record), quiet_groups(record)], [(), ((),)])
            self.assertEqual([is_shown_by(record, ()), first_row_shown(record, ())], [False, None])

    def test_members_in_any_order_and_repeated(self):
        record = ("price", PAIR)
        for members in (("bob", "ann"), ("ann", "bob", "ann"), ("cy", "bob", "bob", "ann")):
            self.assertIs(is_shown_by(record, members), True)
            self.assertEqual(first_row_shown(record, members), 2)

    def test_five_members_with_several_breaches(self):
        rows = (order("eve", "buy", 10, 1), order("ann", "sell", 12, 1), order("bob", "sell", 10, 1),
                order("cy", "sell", 11, 1), ("prints", ((13, 1, None),)), order("dan", "buy", 11, 1))
        for rule in RULES:
            record = rule, rows
            self.assertEqual(least_groups(record), (("ann",), ("bob",), ("cy",)))
            self.assertEqual(quiet_groups(record), (("dan", "eve"),))
            self.assertEqual([first_row_shown(record, (name,)) for name in ("ann", "bob", "cy", "dan", "eve")],
                             [4, 4, 4, None, None])
            self.assertEqual(first_row_shown(record, ("eve", "bob")), 2)

    def test_no_member(self):
        for record in (RECORD, ("price", PAIR), ("late", ())):
            there = {row[1] for row in record[1] if row[0] == "order"}
            for thing in ANY_VALUES + ("dan", ("ann",), "an"):
                if isinstance(thing, str) and thing in there:
                    continue
                for function in (is_shown_by, first_row_shown):
                    for members in ((thing,), (*there, thing), (thing, "zoe")):
                        with self.assertRaises(UnknownMember) as caught:
                            function(record, members)
                        self.assertIs(caught.exception.member, thing)

    def test_made_records(self):
        barred = 0
        for record in made_records(51, 400, many=9, fair=0.2):
            shown = shown_groups(record)
            barred += bool(shown)
            self.assertEqual(least_groups(record), least_of(shown))
            self.assertEqual(quiet_groups(record), greatest_of(set(groups_in(record[1])) - set(shown)))
            for group in groups_in(record[1]):
                self.assertIs(is_shown_by(record, group), group in shown)
                row = min((bar[1] for bar in found_bars(seen_by(record, group))), default=None)
                self.assertEqual(first_row_shown(record, group), row)
            for group in least_groups(record):
                self.assertIn(len(group), (1, 2))
        self.assertGreater(barred, 100)

    def test_a_greater_group_shows_it_at_the_same_row_or_before(self):
        for record in made_records(52, 200, fair=0.6):
            groups = groups_in(record[1])
            for part in groups:
                for group in groups:
                    if set(part) <= set(group) and is_shown_by(record, part):
                        self.assertLessEqual(first_row_shown(record, group), first_row_shown(record, part))

    def test_nobody_shows_what_keeps_its_rule(self):
        for day in made_days(53, 100):
            record = record_told(day)
            self.assertEqual(least_groups(record), ())
            self.assertEqual(quiet_groups(record), (max(groups_in(record[1]), key=len),))

    def test_the_documents_example(self):
        self.assertEqual([least_groups(RECORD), quiet_groups(RECORD), first_row_shown(RECORD, ("ann",))],
                         [(("ann",),), (("bob",),), 3])

    def test_by_name(self):
        self.assertIs(is_shown_by(members=("ann",), record=RECORD), True)
        self.assertEqual(first_row_shown(members=("ann",), record=RECORD), 3)
        self.assertEqual([least_groups(record=RECORD), quiet_groups(record=RECORD)], [(("ann",),), (("bob",),)])

    def test_kinds_of_results(self):
        for result in (least_groups(RECORD), quiet_groups(RECORD), least_groups(RECORD)[0], quiet_groups(RECORD)[0]):
            self.assertIs(type(result), tuple)
        self.assertIs(type(is_shown_by(RECORD, ())), bool)

    def test_arguments_stay_as_they_are(self):
        thing = ["ann", ["bob"]]
        before = copy.deepcopy(thing)
        with self.assertRaises(UnknownMember):
            is_shown_by(RECORD, ("ann", thing))
        self.assertEqual(thing, before)


if __name__ == "__main__":
    unittest.main()
