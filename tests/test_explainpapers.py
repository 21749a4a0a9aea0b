import copy
import random
import unittest

from fairshown.errors import InvalidPaper
from fairshown.explainchecker import lets_explained
from fairshown.explainpapers import explain_paper
from fairshown.explaining import is_explained

from helper import ANY_VALUES, Case, RECORD, ROWS, RULES, changed, explain_answer, found_bars, made_days, made_records
from helper import order, other_part, part_at, places, prints, record_told, seen_by, thirty_rows


class ExplainPaper(Case):
    def paper_of(self, record):
        """Its paper, which is accepted and of the form that the definition says."""
        paper = explain_paper(record)
        self.assertIs(type(paper), tuple)
        word, what = paper
        self.assertIs(type(what), tuple)
        bars = found_bars(record)
        self.assertEqual(word, "bar" if bars else "day")
        self.assertIs(lets_explained(record, paper), not bars)
        if bars:
            self.assertIn(repr(what), [repr(bar) for bar in bars])
        else:
            self.same(record_told(what), record)
        return paper

    def refused(self, record, thing, word, at):
        self.fields(InvalidPaper, {"word": word, "at": at}, lambda: lets_explained(record, thing))

    def compared(self, record, thing):
        """The checker says of any value what the tests' own one says."""
        right = explain_answer(record, thing)
        if isinstance(right, bool):
            self.assertIs(lets_explained(record, thing), right)
        else:
            self.refused(record, thing, *right)
        return right

    def test_the_example(self):
        self.same(self.paper_of(RECORD), ("bar", ("front", 3, 0, 0, 2)))
        self.assertEqual(self.paper_of(("price", ROWS))[0], "day")
        self.assertEqual(self.paper_of(("late", ROWS))[0], "bar")

    def test_made_records(self):
        told = set()
        for fair in (0.3, 0.8, 1.0):
            for record in made_records(151, 300, fair=fair):
                word = self.paper_of(record)[0]
                called = any(row[0] == "call" for row in record[1])
                told.add((record[0], word, "call" if called else "closed" if ("closed",) in record[1] else "open"))
        self.assertEqual(told, {(rule, word, part) for rule in RULES for word in ("day", "bar")
                                for part in ("open", "closed", "call") if (word, part) != ("bar", "closed")})

    def test_records_of_days_and_what_some_see(self):
        for day in made_days(152, 100):
            record = record_told(day)
            self.assertEqual(self.paper_of(record)[0], "day")
            self.assertEqual(self.paper_of(seen_by(record, ("ann",)))[0], "day")

    def test_thirty_rows(self):
        for rule in RULES:
            self.assertEqual(self.paper_of(thirty_rows(rule))[0], "day")
            self.assertEqual(self.paper_of((rule, thirty_rows(rule)[1][:29] + (prints((11, 1, None)),)))[0], "bar")

    def test_records_without_rows(self):
        for rule in RULES:
            self.same(self.paper_of((rule, ())), ("day", (rule, ())))

    def test_papers_of_one_form_alone(self):
        """A record has papers of exactly one of the two forms."""
        for record in made_records(153, 150, fair=0.7):
            paper = self.paper_of(record)
            for bar in (("through", 1, 0, 0, None), ("crossed", 1, 0, 0, 1), paper[1]):
                if is_explained(record):
                    self.refused(record, ("bar", bar), "bar", -1)
            if not is_explained(record):
                for k in range(len(record[1]) + 1):
                    part = explain_paper((record[0], record[1][:k]))
                    if part[0] == "day":
                        self.refused(record, part, "row", k)

    def test_papers_changed_in_one_place(self):
        rng = random.Random(154)
        words = {}
        for record in list(made_records(155, 240, fair=0.9)) + [record_told(day) for day in made_days(156, 60)]:
            paper = self.paper_of(record)
            ways = list(places(paper))
            for _ in range(12):
                way = rng.choice(ways)
                right = self.compared(record, changed(paper, way, other_part(rng, part_at(paper, way))))
                word = right if isinstance(right, bool) else right[0]
                words[word] = words.get(word, 0) + 1
        for word in (True, False, "form", "shape", "rule", "place", "order", "cancel", "fills", "by", "row", "bar"):
            self.assertGreater(words.get(word, 0), 3, (word, words))

    def test_any_value_at_any_depth(self):
        closed = ("price", (("closed",), order("ann", "buy", 10, 1), ("call", 10, ((1, 1),))))
        for record in (RECORD, ("time", ROWS[:3]), closed):
            paper = self.paper_of(record)
            for way in places(paper):
                for thing in ANY_VALUES:
                    self.compared(record, changed(paper, way, thing))

    def test_papers_of_other_records(self):
        records = list(made_records(157, 60))
        for record, other in zip(records, records[1:]):
            self.compared(record, explain_paper(other))
            for rule in RULES:
                self.compared((rule, record[1]), explain_paper(record))

    def test_arguments(self):
        before = copy.deepcopy(RECORD)
        self.same(explain_paper(record=RECORD), explain_paper(RECORD))
        self.assertIs(lets_explained(thing=explain_paper(RECORD), record=RECORD), False)
        self.same(RECORD, before)


if __name__ == "__main__":
    unittest.main()
