import copy
import unittest

from fairshown.eventtexts import event_line, log_lines

EVENTS = (
    (("row", ("order", "ann", "buy", 10, 3, ())), "row order ann buy 10 3"),
    (("row", ("order", "ann", "sell", 10, 3, ((11, 1, None), (10, 2, 0)))), "row order ann sell 10 3 11*1@- 10*2@0"),
    (("row", ("cancel", 3)), "row cancel 3"),
    (("row", ("prints", ())), "row prints"),
    (("row", ("prints", ((10, 1, None), (9, 2, 1)))), "row prints 10*1@- 9*2@1"),
    (("row", ("closed",)), "row closed"),
    (("row", ("call", None, ())), "row call -"),
    (("row", ("call", 10, ((0, 2), (3, 1)))), "row call 10 2@0 1@3"),
    (("join", "ann"), "join ann"),
    (("join", "row"), "join row"),
    (("leave", "abcdefgh"), "leave abcdefgh"),
    (("rule", "time"), "rule time"),
    (("rule", "late"), "rule late"),
    (("rule", "price"), "rule price"),
)


class Lines(unittest.TestCase):
    def test_events(self):
        for event, line in EVENTS:
            self.assertEqual(event_line(event), line)
            self.assertEqual(event_line(event=event), line)
            self.assertIs(type(event_line(event)), str)

    def test_a_log_without_events(self):
        self.assertEqual(log_lines((("audit", "time", ()),)), ["audit time -"])
        self.assertEqual(log_lines((("audit", "late", ("ann",)),)), ["audit late ann"])
        self.assertEqual(log_lines((("audit", "price", ("ann", "bob", "cy")),)), ["audit price ann,bob,cy"])

    def test_a_log_with_events(self):
        events = tuple(event for event, _ in EVENTS)
        for beginning, line in ((("audit", "time", ()), "audit time -"),
                                (("audit", "late", ("ann", "cy")), "audit late ann,cy")):
            lines = log_lines((beginning,) + events)
            self.assertEqual(lines, [line] + [text for _, text in EVENTS])
            self.assertIs(type(lines), list)

    def test_a_log_of_a_hundred_events(self):
        log = (("audit", "time", ("a", "b", "c", "d", "e")),) + (("join", "ann"),) * 100
        self.assertEqual(log_lines(log=log), ["audit time a,b,c,d,e"] + ["join ann"] * 100)

    def test_results_are_new_and_arguments_stay(self):
        log = (("audit", "time", ()), ("rule", "late"))
        before = copy.deepcopy(log)
        log_lines(log).append("row closed")
        self.assertEqual(log_lines(log), ["audit time -", "rule late"])
        self.assertEqual(log, before)


if __name__ == "__main__":
    unittest.main()
