import copy
import re
import unittest

from fairshown.audits import is_event
from fairshown.errors import InvalidText
from fairshown.eventreadings import read_event, read_log
from fairshown.eventtexts import event_line, log_lines

from helper import ANY_VALUES, RULES

EVENTS = (
    ("row", ("order", "ann", "buy", 10, 3, ())), ("row", ("order", "ann", "sell", 10, 3, ((11, 1, None), (10, 2, 0)))),
    ("row", ("cancel", 3)), ("row", ("prints", ())), ("row", ("prints", ((10, 1, None), (9, 2, 1)))),
    ("row", ("closed",)), ("row", ("call", None, ())), ("row", ("call", 10, ((0, 2), (3, 1)))), ("join", "ann"),
    ("join", "row"), ("leave", "abcdefgh"), ("rule", "time"), ("rule", "late"), ("rule", "price"),
)
BEGINNINGS = (
    (("audit", "time", ()), "audit time -"), (("audit", "late", ("ann",)), "audit late ann"),
    (("audit", "price", ("ann", "bob", "cy")), "audit price ann,bob,cy"),
)
WORDS = ("", "-", "ann", "Ann", "abcdefghi", "ann,bob", "ann,", ",ann", ",", "a,,b", "time", "late", "Time", "row", "join",
         "leave", "rule", "audit", "undo", "Join", "joins", "1", "closed", "prints", "cancel", "ann\n", "\n", "time\n",
         "join\n", "audit\n", "row\n", "-\n", "\t", "ann-", "-,ann", "9*1@-")


def fault_of(text):
    """The field of a line of an event that is no row, or None if it is one."""
    words = text.split(" ")
    second = {"join": "[a-z]{1,8}", "leave": "[a-z]{1,8}", "rule": "time|late|price"}.get(words[0])
    if second is None:
        return 0
    if len(words) == 1 or not re.fullmatch(second, words[1]):
        return 1
    return 2 if len(words) > 2 else None


def beginning_fault(text):
    words = text.split(" ")
    patterns = ["audit", "time|late|price", "-|[a-z]{1,8}(,[a-z]{1,8})*"]
    for at, pattern in enumerate(patterns):
        if at == len(words) or not re.fullmatch(pattern, words[at]):
            return at
    return 3 if len(words) > 3 else None


class Case(unittest.TestCase):
    def fault(self, line, field, deed):
        with self.assertRaises(InvalidText) as caught:
            deed()
        self.assertEqual(vars(caught.exception), {"line": line, "field": field})


class OfEvents(Case):
    def test_each_form(self):
        for event in EVENTS:
            line = event_line(event)
            self.assertEqual(repr(read_event(line)), repr(event))
            self.assertEqual(read_event(text=line), event)
            self.assertTrue(is_event(read_event(line)))
            self.assertEqual(event_line(read_event(line)), line)

    def test_each_word_wrong(self):
        faults = set()
        for event in EVENTS[8:]:
            words = event_line(event).split(" ")
            lines = [[], words[:1], words[1:], words * 2, words[::-1], words + [""], [""] + words, [words[0], "", words[1]]]
            for word in WORDS:
                lines += [[word, words[1]], [words[0], word], words + [word], [word]]
            for other in lines:
                text = " ".join(other)
                faults.add(fault_of(text))
                if fault_of(text) is None:
                    self.assertEqual(read_event(text), tuple(text.split(" ")))
                elif text.split(" ")[0] != "row":
                    self.fault(0, fault_of(text), lambda: read_event(text))
                    self.fault(2, fault_of(text), lambda: read_log(["audit time -", "row closed", text, "nothing"]))
        self.assertEqual(faults, {None, 0, 1, 2})

    def test_rows(self):
        for text, field in (("row", 1), ("row ", 1), ("row  closed", 1), ("row row", 1), ("row closed ", 2),
                            ("row closed closed", 2), ("row order", 2), ("row order ann", 3), ("row order Ann buy 9 1", 2),
                            ("row order ann buy 0 1", 4), ("row order ann buy 9", 5), ("row order ann buy 9 1 9*0@1", 6),
                            ("row prints 9*1@- 9*1", 3), ("row call 9 1@1 1@1", 4), ("row call - 1@1", 3), ("row call", 2),
                            ("row cancel -", 2), ("row cancel", 2), ("row join ann", 1), ("row  ", 1),
                            ("row audit time -", 1), ("row cancel 01", 2), ("row cancel " + "9" * 61, 2)):
            self.fault(0, field, lambda: read_event(text))
            self.fault(3, field, lambda: read_log(["audit late ann", "join bob", "row closed", text, ""]))

    def test_newlines(self):
        for text, field in (("join ann\n", 1), ("join\n ann", 0), ("\njoin ann", 0), ("join \nann", 1), ("rule time\n", 1),
                            ("row closed\n", 1), ("row\nclosed", 0), ("row \nclosed", 1), ("row\n closed", 0),
                            ("row prints\n", 1), ("row cancel 1\n", 2), ("row order ann buy 9 1\n", 5), ("\n", 0),
                            ("leave ann\njoin bob", 1), ("leave ann \n", 2), ("row closed \n", 2), ("row\n", 0)):
            self.fault(0, field, lambda: read_event(text))
            self.fault(1, field, lambda: read_log(["audit late ann", text]))

    def test_any_strings(self):
        for thing in ANY_VALUES + ("", " ", "  ", "undo", "audit", "audit time -", "audit time ann"):
            if isinstance(thing, str):
                self.fault(0, 0, lambda: read_event(thing))

    def test_whether_it_is_possible_is_not_checked(self):
        self.assertEqual(read_event("row cancel 9"), ("row", ("cancel", 9)))
        self.assertEqual(read_event("row call 9 1@7"), ("row", ("call", 9, ((7, 1),))))
        self.assertEqual(read_event("leave nobody"), ("leave", "nobody"))


class OfLogs(Case):
    def test_logs(self):
        for beginning, line in BEGINNINGS:
            for many in range(len(EVENTS) + 1):
                log = (beginning,) + EVENTS[:many]
                self.assertEqual(repr(read_log(log_lines(log))), repr(log))
                self.assertEqual(log_lines(read_log(lines=log_lines(log))), log_lines(log))
            self.assertEqual(read_log([line]), (beginning,))
        log = (BEGINNINGS[2][0],) + (("rule", "time"),) * 100
        self.assertEqual(read_log(log_lines(log)), log)

    def test_each_word_of_the_beginning_wrong(self):
        faults = set()
        for _, line in BEGINNINGS:
            words = line.split(" ")
            lines = [words[:k] for k in range(4)] + [words[::-1], words + [""], [""] + words, words * 2]
            for k in range(4):
                lines.append(words[:k] + [""] + words[k:])
                for word in WORDS:
                    lines += [words[:k] + [word] + words[k + 1:], words[:k] + [word] + words[k:]]
            for other in lines:
                text = " ".join(other)
                fault = beginning_fault(text)
                faults.add(fault)
                for more in ([], ["join ann"], ["nothing"]):
                    if fault is not None:
                        self.fault(0, fault, lambda: read_log([text] + more))
                    elif more != ["nothing"]:
                        rule, names = text.split(" ")[1:]
                        members = () if names == "-" else tuple(names.split(","))
                        self.assertEqual(read_log([text] + more)[0], ("audit", rule, members))
        self.assertEqual(faults, {None, 0, 1, 2, 3})

    def test_an_empty_list(self):
        self.fault(0, 0, lambda: read_log([]))

    def test_the_first_line_and_no_other_one(self):
        self.fault(0, 0, lambda: read_log(["join ann"]))
        self.fault(0, 0, lambda: read_log(["row closed", "audit time -"]))
        self.fault(1, 0, lambda: read_log(["audit time -", "audit time -"]))
        self.fault(2, 0, lambda: read_log(["audit time -", "join ann", "audit time -", "nothing"]))
        self.fault(1, 0, lambda: read_log(["audit time -", ""]))
        self.fault(0, 0, lambda: read_log([""]))
        self.fault(0, 2, lambda: read_log(["audit time -\n"]))
        self.fault(0, 2, lambda: read_log(["audit time -\njoin ann"]))
        self.fault(0, 1, lambda: read_log(["audit time\n -"]))
        self.fault(0, 0, lambda: read_log(["\naudit time -"]))

    def test_the_first_line_that_is_not_possible(self):
        lines = ["audit time ann", "join bob", "row closed", "leave bob"]
        for k in range(1, 4):
            self.fault(k, 1, lambda: read_log(lines[:k] + ["join Bob"] + lines[k + 1:]))
            self.fault(k, 2, lambda: read_log(lines[:k] + ["row cancel"] + lines[k:] + ["nothing"]))
            self.fault(k, 0, lambda: read_log(lines[:k] + [""] + lines[k:] + ["nothing"]))

    def test_members_and_events_are_not_checked(self):
        self.assertEqual(read_log(["audit late bob,ann,bob"]), (("audit", "late", ("bob", "ann", "bob")),))
        self.assertEqual(read_log(["audit late a,b,c,d,e,f,g", "rule late", "leave z"])[1:],
                         (("rule", "late"), ("leave", "z")))
        for rule in RULES:
            self.assertEqual(read_log(["audit " + rule + " -"])[0], ("audit", rule, ()))

    def test_kinds_and_arguments(self):
        lines = ["audit late ann,bob", "row prints 9*1@-"]
        before = copy.deepcopy(lines)
        log = read_log(lines)
        self.assertEqual(lines, before)
        self.assertEqual([type(part) for part in (log, log[0], log[0][2], log[1], log[1][1])], [tuple] * 5)
        self.assertEqual(log, (("audit", "late", ("ann", "bob")), ("row", ("prints", ((9, 1, None),)))))


if __name__ == "__main__":
    unittest.main()
