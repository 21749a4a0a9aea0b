import unittest

from fairshown.rulings import breaches_by_rule, rules_of

from helper import RECORD, ROWS, RULES, found_bars, groups_in, made_days, made_records, record_told, seen_by
from helper import thirty_rows


class Rulings(unittest.TestCase):
    def test_the_example(self):
        self.assertEqual([breaches_by_rule(RECORD), rules_of(RECORD), rules_of(('late', ROWS[:1]))],
                         [(('late', 2), ('price', None), ('time', 3)), ('price',), ('late', 'price', 'time')])

    def test_made_records(self):
        seen = set()
        for fair in (0.5, 0.9, 1.0):
            for record in made_records(41, 300, fair=fair):
                bars = {rule: found_bars((rule, record[1])) for rule in RULES}
                rules = tuple(rule for rule in sorted(RULES) if not bars[rule])
                rows = tuple((rule, min((bar[1] for bar in bars[rule]), default=None)) for rule in sorted(RULES))
                self.assertEqual(rules_of(record), rules)
                self.assertEqual(breaches_by_rule(record), rows)
                seen.add(rules)
                # If any rule explains it, "price" does.
                self.assertIs("price" in rules, rules != ())
        self.assertEqual(seen, {(), ("price",), ("late", "price"), ("price", "time"), ("late", "price", "time")})

    def test_a_greater_group_sees_no_more_rules(self):
        for record in made_records(42, 90):
            groups = groups_in(record[1])
            for group in groups:
                for part in groups:
                    if set(part) <= set(group):
                        more, less = rules_of(seen_by(record, part)), rules_of(seen_by(record, group))
                        self.assertLessEqual(set(less), set(more))

    def test_the_rule_of_a_day_explains_its_record(self):
        for day in made_days(43, 90):
            self.assertIn(day[0], rules_of(record_told(day)))
        for rule in RULES:
            self.assertIn(rule, rules_of(thirty_rows(rule)))

    def test_its_own_rule_does_not_count(self):
        for record in made_records(44, 90):
            for rule in RULES:
                self.assertEqual(rules_of((rule, record[1])), rules_of(record))
                self.assertEqual(breaches_by_rule((rule, record[1])), breaches_by_rule(record))

    def test_kinds_and_names(self):
        self.assertIs(type(rules_of(RECORD)), tuple)
        self.assertIs(type(breaches_by_rule(RECORD)), tuple)
        self.assertTrue(all(type(pair) is tuple for pair in breaches_by_rule(RECORD)))
        self.assertEqual(rules_of(record=("time", ())), ("late", "price", "time"))
        self.assertEqual(breaches_by_rule(record=("time", ())), (("late", None), ("price", None), ("time", None)))


if __name__ == "__main__":
    unittest.main()
