import unittest

from fairshown.recordtexts import record_text, row_text

from helper import RECORD, made_records, thirty_rows

BIG = 10 ** 59

# Each row by form, and its text.
TEXTS = (
    (("order", "ann", "buy", 10, 3, ()), "order ann buy 10 3"),
    (("order", "ann", "sell", 10, 3, ((11, 1, None), (10, 2, 0))), "order ann sell 10 3 11*1@- 10*2@0"),
    (("order", "abcdefgh", "buy", BIG, BIG, ((BIG, BIG, BIG),)),
     f"order abcdefgh buy {BIG} {BIG} {BIG}*{BIG}@{BIG}"),
    (("cancel", 0), "cancel 0"), (("cancel", 17), "cancel 17"),
    (("prints", ()), "prints"),
    (("prints", ((10, 1, None),)), "prints 10*1@-"),
    (("prints", ((10, 1, None), (9, 22, 13))), "prints 10*1@- 9*22@13"),
    (("closed",), "closed"),
    (("call", None, ()), "call -"), (("call", 10, ()), "call 10"),
    (("call", 10, ((0, 3),)), "call 10 3@0"), (("call", 10, ((1, 2), (12, 1))), "call 10 2@1 1@12"),
)


class Texts(unittest.TestCase):
    def test_rows(self):
        for row, text in TEXTS:
            self.assertEqual(row_text(row), text)
            self.assertEqual(row_text(row=row), text)
            self.assertIs(type(row_text(row)), str)

    def test_records(self):
        self.assertEqual(record_text(RECORD), "record time\norder ann buy 10 3\norder bob buy 10 2\n"
                         "prints 10*1@- 10*1@0\nprints 10*1@-")
        self.assertEqual(record_text(record=("late", ())), "record late")
        self.assertEqual(record_text(("price", (("closed",), ("call", None, ())))), "record price\nclosed\ncall -")

    def test_rows_by_form_that_make_no_record(self):
        rows = tuple(row for row, _ in TEXTS)
        self.assertEqual(record_text(("time", rows)), "\n".join(["record time"] + [text for _, text in TEXTS]))

    def test_a_record_is_its_rows_line_by_line(self):
        for record in list(made_records(31, 60)) + [thirty_rows("price")]:
            lines = record_text(record).split("\n")
            self.assertEqual(lines, ["record " + record[0]] + [row_text(row) for row in record[1]])

    def test_different_rows_have_different_texts(self):
        rows = {row for record in made_records(32, 200) for row in record[1]}
        self.assertEqual(len({row_text(row) for row in rows}), len(rows))


if __name__ == "__main__":
    unittest.main()
