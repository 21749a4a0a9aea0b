import random
import re
import unittest

from fairshown.errors import InvalidText
from fairshown.kinds import is_row
from fairshown.recordreadings import record_read, row_read
from fairshown.recordtexts import record_text, row_text

from helper import ANY_VALUES, RECORD, ROWS, RULES, made_days, made_records, record_told, thirty_rows

NAME = "[a-z]{1,8}"
POSITIVE = "[1-9][0-9]{0,59}"
NUMBER = "(0|[1-9][0-9]{0,59})"
FILL = POSITIVE + r"\*" + POSITIVE + "@(-|0|[1-9][0-9]{0,59})"
PAIR = POSITIVE + "@" + NUMBER
# What each word of a row has to be, and what any further ones.
GRAMMAR = {
    "order": ([NAME, "buy|sell", POSITIVE, POSITIVE], FILL),
    "cancel": ([NUMBER], None),
    "prints": ([], FILL),
    "closed": ([], None),
    "call": (["-|" + POSITIVE], PAIR),
}
LINES = (
    "order ann sell 10 3 11*1@- 10*2@0", "order abcdefgh buy 1 1", "cancel 0", "cancel 12", "prints",
    "prints 9*1@- 10*12@0 9*1@3", "closed", "call -", "call 10", "call 10 1@0 2@1 1@12",
)
WORDS = (
    "", "-", "0", "1", "00", "01", "-1", "+1", "1.0", "1_0", "x", "ann", "Ann", "abcdefghi", "buy", "sell", "Buy",
    "time", "order", "cancel", "prints", "closed", "call", "record", "Order", "9*1@-", "9*1@0", "0*1@0", "9*0@0",
    "9*1@00", "9*1@", "9*1", "9*@1", "*1@1", "9**1@1", "9*1@1@1", "9*1*1@1", "9@1*1", "1@0", "1@1", "1@5", "0@1", "1@-",
    "1@01", "@1", "1@", "1@1@1", "9*01@1", "09*1@1", "9*1@-1", "9*1@+1", "9*-1@1", "\t", "ann\t", "\t9", "9*1@-\t",
    "9" * 60, "9" * 61, "0" * 60, "1" + "0" * 60, "9*1@" + "9" * 60, "9*1@" + "9" * 61, "9" * 61 + "*1@1",
    "9*" + "9" * 61 + "@1", "1@" + "9" * 61, "1@" + "9" * 60, "9*1@None", "1e2", "0x1", "9,1", "(9,1)",
)


def fault_of(text):
    """The index of the first word that cannot stand, or the number of words if one is missing, or None."""
    words = text.split(" ")
    if words[0] not in GRAMMAR:
        return 0
    fixed, further = GRAMMAR[words[0]]
    last = -1
    for at, word in enumerate(words[1:]):
        pattern = fixed[at] if at < len(fixed) else further
        if pattern is None or not re.fullmatch(pattern, word):
            return at + 1
        if words[0] == "call" and at > 0:
            n = int(word.split("@")[1])
            if words[1] == "-" or n <= last:
                return at + 1
            last = n
    return len(words) if len(words) <= len(fixed) else None


def near(words):
    """Lines that differ from these words in one place."""
    for at in range(len(words)):
        yield words[:at] + words[at + 1:]
        yield words[:at] + words[at:at + 1] + words[at:]
        yield words[:at] + [""] + words[at:]
        yield words[:at] + [words[at] + " "] + words[at + 1:]
        for word in WORDS:
            yield words[:at] + [word] + words[at + 1:]
    for word in WORDS:
        yield words + [word]
    yield words[:1]
    yield words[::-1]


class Case(unittest.TestCase):
    def fault(self, line, field, deed):
        with self.assertRaises(InvalidText) as caught:
            deed()
        self.assertEqual(vars(caught.exception), {"line": line, "field": field})

    def read(self, text):
        """Read a row, which has to go as the tests' own grammar says."""
        fault = fault_of(text)
        if fault is None:
            row = row_read(text)
            self.assertTrue(is_row(row), text)
            self.assertEqual(row_text(row), text)
            self.assertEqual(record_read("record late\n" + text), ("late", (row,)))
            return row
        self.fault(0, fault, lambda: row_read(text))
        self.fault(7, fault + 3, lambda: row_read(text, line=7, field=3))
        if "\n" not in text:
            self.fault(2, fault, lambda: record_read("record time\nclosed\n" + text + "\ncancel"))
        return None


class Rows(Case):
    def test_the_examples(self):
        self.assertEqual(row_read('order ann sell 10 3 11*1@- 10*2@0'),
                         ('order', 'ann', 'sell', 10, 3, ((11, 1, None), (10, 2, 0))))
        self.fault(4, 5, lambda: row_read('call 10 2@1 1@1', line=4, field=2))
        self.fault(2, 0, lambda: record_read('record late\nclosed\n'))

    def test_each_form(self):
        rows = (("order", "ann", "sell", 10, 3, ((11, 1, None), (10, 2, 0))), ("order", "abcdefgh", "buy", 1, 1, ()),
                ("cancel", 0), ("cancel", 12), ("prints", ()), ("prints", ((9, 1, None), (10, 12, 0), (9, 1, 3))),
                ("closed",), ("call", None, ()), ("call", 10, ()), ("call", 10, ((0, 1), (1, 2), (12, 1))))
        for text, row in zip(LINES, rows):
            self.assertEqual(self.read(text), row)
            self.assertEqual(row_read(text, line=5, field=5), row)
            self.assertEqual(repr(row_read(text=text)), repr(row))

    def test_lines_with_one_word_changed(self):
        faults = set()
        for text in LINES:
            for words in near(text.split(" ")):
                self.read(" ".join(words))
                faults.add(fault_of(" ".join(words)))
        self.assertEqual(faults, {None, 0, 1, 2, 3, 4, 5, 6, 7})

    def test_lines_with_several_words_changed(self):
        rng = random.Random(91)
        for _ in range(6000):
            words = rng.choice(LINES).split(" ")
            for _ in range(rng.randint(1, 3)):
                words = rng.choice(list(near(words)) if rng.random() < 0.02 else [words + [rng.choice(WORDS)],
                                                                                 words[:-1] + [rng.choice(WORDS)]])
            self.read(" ".join(words))

    def test_blanks(self):
        for text in ("", " ", "  ", " closed", "closed ", "prints ", " prints", "prints  9*1@-", "prints 9*1@- ",
                     "cancel  1", "cancel 1 ", "cancel ", "call ", "call - ", "call 9 ", "order ann buy 9 1 ",
                     "order ann  buy 9 1", "order  ann buy 9 1", "\t", "closed\t", "\tclosed", "cancel\t1",
                     "order\tann\tbuy\t9\t1"):
            self.assertIsNotNone(fault_of(text))
            self.read(text)

    def test_missing_words(self):
        for text, many in (("order", 1), ("order ann", 2), ("order ann buy", 3), ("order ann buy 9", 4), ("cancel", 1),
                           ("call", 1)):
            self.fault(0, many, lambda: row_read(text))
            self.fault(3, many + 2, lambda: row_read(text, field=2, line=3))

    def test_great_numbers(self):
        most = 10 ** 60 - 1
        self.assertEqual(self.read(f"order ann buy {most} {most} {most}*{most}@{most}"),
                         ("order", "ann", "buy", most, most, ((most, most, most),)))
        self.assertEqual(self.read(f"cancel {most}"), ("cancel", most))
        self.assertEqual(self.read(f"call {most} {most}@{most}"), ("call", most, ((most, most),)))
        for text in ("order ann buy N 1", "order ann buy 1 N", "cancel N", "prints N*1@1", "prints 1*N@1", "prints 1*1@N",
                     "call N", "call 1 N@1", "call 1 1@N"):
            for number in (str(most + 1), "0" + str(most), "00", "-1", "+1", "1 ", ""):
                self.assertIsNotNone(fault_of(text.replace("N", number)))
                self.read(text.replace("N", number))

    def test_pairs(self):
        self.assertEqual(self.read("call 9 1@2 1@10"), ("call", 9, ((2, 1), (10, 1))))
        for text, at in (("call 9 1@2 1@2", 3), ("call 9 1@2 1@1", 3), ("call 9 1@10 1@9", 3), ("call - 1@2", 2),
                         ("call 9 1@0 1@1 1@0", 4), ("call 0", 1), ("call 9 -", 2), ("call - -", 2), ("call 9 1@-", 2)):
            self.fault(0, at, lambda: row_read(text))

    def test_newlines(self):
        for text, at in (("closed\n", 0), ("\nclosed", 0), ("cancel 1\n", 1), ("cancel\n1", 0), ("cancel \n1", 1),
                         ("prints 9*1@-\n", 1), ("prints\n", 0), ("order ann\n buy 9 1", 1), ("order ann buy\n 9 1", 2),
                         ("order ann buy 9\n 1", 3), ("order ann buy 9 1\n", 4), ("call 9\n", 1), ("call -\n", 1),
                         ("call 9 1@2\n", 2), ("closed\nclosed", 0), ("prints \n", 1), ("prints \n9*1@-", 1)):
            self.fault(0, at, lambda: row_read(text))
            self.fault(6, at + 1, lambda: row_read(text, line=6, field=1))

    def test_other_digits(self):
        for text in ("cancel \u0661", "cancel \u00b2", "order ann buy \uff11 1", "prints 1*1@\u0661"):
            self.assertIsNotNone(fault_of(text))
            self.read(text)

    def test_any_strings(self):
        for thing in ANY_VALUES:
            if isinstance(thing, str):
                self.read(thing)


class Records(Case):
    def test_made_records(self):
        for record in list(made_records(92, 200)) + [record_told(day) for day in made_days(93, 60)] + [RECORD]:
            self.assertEqual(record_read(record_text(record)), record)
            self.assertEqual(record_text(record_read(text=record_text(record))), record_text(record))
            for row in record[1]:
                self.assertEqual(row_read(row_text(row)), row)
        for rule in RULES:
            self.assertEqual(record_read(record_text(thirty_rows(rule))), thirty_rows(rule))

    def test_the_first_line(self):
        for rule in RULES:
            self.assertEqual(record_read("record " + rule), (rule, ()))
            self.assertIs(type(record_read("record " + rule)[1]), tuple)
        for text, at in (("", 0), ("record", 1), ("record ", 1), ("record slow", 1), ("record  time", 1),
                         ("record time ", 2), ("record time time", 2), (" record time", 0), ("Record time", 0),
                         ("records time", 0), ("time", 0), ("closed", 0), ("record\ttime", 0), ("record time\t", 1),
                         ("record Time", 1), ("record time\r", 1), (" ", 0)):
            for more in ("", "\n", "\nclosed", "\nnothing"):
                self.fault(0, at, lambda: record_read(text + more))

    def test_the_first_line_that_is_not_possible(self):
        lines = record_text(("time", ROWS)).split("\n")
        for k in range(1, len(lines)):
            for wrong, at in (("order ann", 2), ("", 0), ("prints 9*1@- 9", 2), ("record time", 0), (" closed", 0)):
                text = "\n".join(lines[:k] + [wrong] + lines[k + 1:])
                self.fault(k, at, lambda: record_read(text))
                self.fault(k, at, lambda: record_read(text + "\nnothing"))

    def test_newlines(self):
        for text, line in (("\n", 0), ("record late\n", 1), ("record late\n\nclosed", 1), ("\nrecord late", 0),
                           ("record late\nclosed\n", 2), ("record late\nclosed\n\n", 2), ("record late\nclosed\n ", 2)):
            self.fault(line, 0, lambda: record_read(text))

    def test_whether_it_is_a_record_is_not_checked(self):
        self.assertEqual(record_read("record time\ncancel 5\nclosed\ncall 9 1@7\norder ann buy 9 1 10*2@99"),
                         ("time", (("cancel", 5), ("closed",), ("call", 9, ((7, 1),)),
                                   ("order", "ann", "buy", 9, 1, ((10, 2, 99),)))))


if __name__ == "__main__":
    unittest.main()
