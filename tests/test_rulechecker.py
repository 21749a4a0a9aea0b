import copy
import random
import unittest

from fairshown.errors import InvalidPaper
from fairshown.explainpapers import explain_paper
from fairshown.rulechecker import lets_rules
from fairshown.rulepapers import rule_paper
from fairshown.rulings import breaches_by_rule, rules_of

from helper import ANY_VALUES, RECORD, ROWS, RULES, Case, barred_records, called_records, changed, explain_answer
from helper import found_bars, groups_in, made_days, made_records, order, other_part, part_at, places, record_told
from helper import seen_by, thirty_rows

# Explained by "late" and by "price".
CALLED = (("closed",), order("ann", "buy", 10, 2), order("bob", "buy", 10, 1), ("call", 10, ((2, 1),)))


def right_answer(record, thing):
    """What the checker has to return, or the fields of its error."""
    if type(thing) is not tuple or len(thing) != 3:
        return "shape", -1
    told = [explain_answer((rule, record[1]), thing[k]) for k, rule in enumerate(sorted(RULES))]
    for k, answer in enumerate(told):
        if not isinstance(answer, bool):
            return "paper", k
    return tuple(rule for rule, answer in zip(sorted(RULES), told) if answer)


class Own(Case):
    def paper_of(self, record):
        """Its paper: three papers, each of the form that the bars by its rule tell."""
        paper = rule_paper(record)
        self.assertIs(type(paper), tuple)
        self.assertEqual(len(paper), 3)
        rules = tuple(rule for rule in sorted(RULES) if not found_bars((rule, record[1])))
        self.assertEqual([word for word, _ in paper], ["day" if rule in rules else "bar" for rule in sorted(RULES)])
        for rule, (word, what) in zip(sorted(RULES), paper):
            if word == "day":
                self.same(record_told(what), (rule, record[1]))
            else:
                self.assertIn(repr(what), [repr(bar) for bar in found_bars((rule, record[1]))])
        self.same(lets_rules(record, paper), rules)
        self.same(lets_rules(record, paper), rules_of(record))
        return paper

    def refused(self, record, thing, word, at):
        self.same(right_answer(record, thing), (word, at))
        self.fields(InvalidPaper, {"word": word, "at": at}, lambda: lets_rules(record, thing))

    def compared(self, record, thing):
        right = right_answer(record, thing)
        if right[:1] in (("shape",), ("paper",)):
            self.refused(record, thing, *right)
        else:
            self.same(lets_rules(record, thing), right)
        return right


class Papers(Own):
    def test_the_records_of_the_examples(self):
        paper = self.paper_of(RECORD)
        self.assertEqual(paper[0], ("bar", ("ahead", 2, 1, 1, 0)))
        self.assertEqual(paper[2], ("bar", ("front", 3, 0, 0, 2)))
        self.assertEqual(lets_rules(RECORD, paper), ("price",))
        self.assertEqual(lets_rules(("late", ROWS[:1]), self.paper_of(("late", ROWS[:1]))), ("late", "price", "time"))
        self.assertEqual(lets_rules(("time", CALLED), self.paper_of(("time", CALLED))), ("late", "price"))

    def test_made_records(self):
        seen = set()
        for fair in (0.3, 0.9, 1.0):
            for record in made_records(211, 150, fair=fair):
                seen.add(lets_rules(record, self.paper_of(record)))
        for record in list(called_records(212, 150)) + list(barred_records(213, 60)):
            seen.add(lets_rules(record, self.paper_of(record)))
        self.assertEqual(seen, {(), ("price",), ("late", "price"), ("price", "time"), ("late", "price", "time")})

    def test_days(self):
        for day in made_days(214, 60):
            record = record_told(day)
            self.assertIn(day[0], lets_rules(record, self.paper_of(record)))
        for rule in RULES:
            self.assertIn(rule, lets_rules(thirty_rows(rule), self.paper_of(thirty_rows(rule))))

    def test_the_own_rule_does_not_count(self):
        for record in made_records(215, 60):
            papers = [rule_paper((rule, record[1])) for rule in RULES]
            self.assertEqual(papers, papers[:1] * 3)
            for rule in RULES:
                self.same(lets_rules((rule, record[1]), papers[0]), lets_rules(record, papers[0]))

    def test_no_rows(self):
        for rule in RULES:
            self.same(self.paper_of((rule, ())), tuple(("day", (name, ())) for name in sorted(RULES)))


class Words(Own):
    def test_not_three(self):
        paper = rule_paper(RECORD)
        for thing in ANY_VALUES + (paper[:2], paper[:1], (), paper + paper[:1], list(paper), paper + (None,),
                                   {1: paper}, paper * 2):
            self.refused(RECORD, thing, *(("paper", 0) if thing == (10, 1, None) else ("shape", -1)))

    def test_one_of_another_rule(self):
        paper = rule_paper(RECORD)
        self.refused(RECORD, paper[::-1], "paper", 0)
        self.refused(RECORD, (paper[1],) + paper[1:], "paper", 0)
        self.refused(RECORD, (paper[0], paper[0], paper[2]), "paper", 1)
        self.refused(RECORD, (paper[0], paper[2], paper[2]), "paper", 1)
        self.refused(RECORD, (paper[0], paper[1], paper[0]), "paper", 2)
        good = ("time", ROWS[:2])
        days = rule_paper(good)
        for k in range(3):
            for j in range(3):
                if j != k:
                    self.refused(good, days[:k] + (days[j],) + days[k + 1:], "paper", k)

    def test_one_of_the_other_form(self):
        paper = rule_paper(RECORD)
        days = rule_paper(("time", ROWS[:2]))
        for k in range(3):
            for other in (("day", None), ("bar", None), ("bar", paper[0][1] if k != 0 else paper[2][1]), days[k],
                          (("day", "bar")[paper[k][0] == "day"], paper[k][1])):
                self.refused(RECORD, paper[:k] + (other,) + paper[k + 1:], "paper", k)

    def test_the_first_such(self):
        paper = rule_paper(RECORD)
        for wrong in range(1, 8):
            thing = tuple(None if wrong >> k & 1 else paper[k] for k in range(3))
            self.refused(RECORD, thing, "paper", min(k for k in range(3) if wrong >> k & 1))

    def test_each_bar_is_as_good(self):
        """A rule paper may have any bar by its rule, and any day."""
        for record in barred_records(216, 90):
            paper = rule_paper(record)
            for k, rule in enumerate(sorted(RULES)):
                for bar in found_bars((rule, record[1])):
                    self.same(lets_rules(record, paper[:k] + (("bar", bar),) + paper[k + 1:]), rules_of(record))
        day = ("late", ((order("zoe", "buy", 1, 1),), (order(None, "buy", 9, 1), ("cancel", (1, 0)))))
        record = record_told(day)
        paper = rule_paper(record)
        self.assertNotEqual(paper[0], ("day", day))
        self.same(lets_rules(record, (("day", day),) + paper[1:]), ("late", "price", "time"))

    def test_any_value_at_any_depth(self):
        for record in (RECORD, ("time", CALLED)):
            paper = rule_paper(record)
            for way in places(paper):
                for thing in ANY_VALUES:
                    self.compared(record, changed(paper, way, thing))

    def test_changed_in_one_place(self):
        rng = random.Random(217)
        words = {}
        for record in list(made_records(218, 120, fair=0.8)) + list(called_records(219, 40)):
            paper = rule_paper(record)
            ways = list(places(paper))
            for _ in range(8):
                way = rng.choice(ways)
                right = self.compared(record, changed(paper, way, other_part(rng, part_at(paper, way))))
                word = right if right[:1] in (("shape",), ("paper",)) else "rules"
                words[word] = words.get(word, 0) + 1
        for word in (("shape", -1), ("paper", 0), ("paper", 1), ("paper", 2), "rules"):
            self.assertGreater(words.get(word, 0), 3, (word, words))


class Consequences(Own):
    def test_price_is_one_of_them(self):
        for record in list(made_records(220, 200)) + list(called_records(221, 60)):
            rules = lets_rules(record, rule_paper(record))
            self.assertIs("price" in rules, rules != ())
            self.assertEqual(rules, tuple(rule for rule, t in breaches_by_rule(record) if t is None))

    def test_a_greater_group_sees_no_more_rules(self):
        for record in made_records(222, 60):
            groups = groups_in(record[1])
            rules = {group: set(lets_rules(seen_by(record, group), rule_paper(seen_by(record, group))))
                     for group in groups}
            for group in groups:
                for part in groups:
                    if set(part) <= set(group):
                        self.assertLessEqual(rules[group], rules[part])

    def test_arguments(self):
        paper = rule_paper(record=RECORD)
        self.same(lets_rules(thing=paper, record=RECORD), ("price",))
        self.assertEqual(paper[0], explain_paper(("late", ROWS)))
        thing = [["day"], [paper]]
        before = copy.deepcopy(thing)
        for wrong in (thing, (thing, thing, thing), paper[:2] + (("day", thing),)):
            with self.assertRaises(InvalidPaper):
                lets_rules(RECORD, wrong)
        self.assertEqual(thing, before)


if __name__ == "__main__":
    unittest.main()
