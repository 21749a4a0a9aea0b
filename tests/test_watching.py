import copy
import inspect
import random
import unittest

from fairshown.bars import bars_at, bars_of, first_bar
from fairshown.errors import InvalidPaper, NotUsable, UnknownOrder
from fairshown.fronts import fronts_at
from fairshown.records import open_at, rest_at
from fairshown.watching import Watch

from helper import ANY_VALUES, ROWS, RULES, Case, called_records, closed_before, first_fault, found_bars, front_of
from helper import made_days, made_records, made_row, open_in, order, orders_in, prints, record_told, rest_of, thirty_rows

# Each rule, in order and not, with a closed part and without, and with a call in it.
SEEDS = ((201, 0.3, (9, 10, 11)), (202, 1.0, (9, 10, 11)), (203, 0.6, (10, 11)))


def records(count):
    for seed, fair, prices in SEEDS:
        yield from made_records(seed, count, many=9, fair=fair, prices=prices)
    yield from called_records(208, count)
    for day in made_days(204, count):
        yield record_told(day)


def led(record):
    watch = Watch(record[0])
    for row in record[1]:
        watch.lead(row)
    return watch


def bars_found_at(record, t):
    return tuple(bar for bar in found_bars(record) if bar[1] == t)


def wrong_row(rng, rows):
    """A row by form that may follow other rows, most often not these."""
    return made_row(rng, rows[::-1], rng.random() < 0.1)


class Own(Case):
    def told(self, watch, record):
        """All that a watch tells, beside what the tests find, and beside the functions of the stages before."""
        rule, rows = record
        many = len(rows)
        bars = found_bars(record)
        self.same(watch.record, record)
        self.same(watch.bars, bars)
        self.same(watch.bars, bars_of(record))
        self.same(watch.first, min(bars, key=lambda bar: (bar[1], bar), default=None))
        self.same(watch.first, first_bar(record))
        self.same(watch.standing, tuple(open_in(rows, many)))
        self.same(watch.standing, open_at(record, many))
        fronts = [(n, front_of(record, n, many, 0)) for n in orders_in(rows)]
        self.same(watch.fronts, tuple(pair for pair in fronts if pair[1] is not None))
        self.same(watch.fronts, fronts_at(record, many))
        self.same(len(watch), many)
        for n in range(-1, many + 1):
            self.assertIs(n in watch, n in open_in(rows, many))
            if n in orders_in(rows):
                self.same(watch[n], rest_of(rows, n, many))
                self.same(watch[n], rest_at(record, n, many))
            else:
                self.fields(UnknownOrder, {"n": n}, lambda: watch[n])
        pairs = [(t, bars_found_at(record, t)) for t in range(many)]
        self.same(list(watch.each()), [pair for pair in pairs if pair[1]])


class Leading(Own):
    def test_the_example(self):
        watch = Watch('time')
        self.assertEqual([watch.lead(row) for row in ROWS], [(), (), (), (('front', 3, 0, 0, 2),)])
        self.assertEqual([watch.back() == ROWS[3], watch.fronts, watch[0], watch.would(('prints', ((9, 1, None),)))],
                         [True, ((0, 2),), 2, (('through', 3, 0, 0, None), ('through', 3, 0, 1, None))])

    def test_a_new_watch(self):
        for rule in RULES:
            watch = Watch(rule=rule)
            self.told(watch, (rule, ()))
            self.assertIsNone(watch.back())
            self.assertIsNone(watch.first)
            self.assertEqual(list(watch.each()), [])

    def test_no_rule(self):
        for thing in ANY_VALUES + (Watch("time"),):
            if not isinstance(thing, str) or thing not in RULES:
                self.fields(NotUsable, {"word": "rule", "at": -1}, lambda: Watch(thing))

    def test_row_by_row(self):
        parts = set()
        for record in records(60):
            rule, rows = record
            watch = Watch(rule)
            for t, row in enumerate(rows):
                before = watch.bars
                would = watch.would(row)
                self.told(watch, (rule, rows[:t]))
                bars = watch.lead(row)
                self.same(would, bars)
                self.same(bars, bars_found_at(record, t))
                self.same(bars, bars_at(record, t))
                self.assertIs(type(bars), tuple)
                # bars grows by the bars of each row.
                self.assertEqual(set(watch.bars) - set(before), set(bars))
                self.assertEqual(len(watch.bars), len(before) + len(bars))
                self.told(watch, (rule, rows[:t + 1]))
                parts.add((rule, row[0], bars != ()))
        for rule in RULES:
            for word in ("order", "prints", "call"):
                self.assertIn((rule, word, True), parts)
            for word in ("order", "prints", "call", "cancel", "closed"):
                self.assertIn((rule, word, False), parts)

    def test_thirty_rows(self):
        for rule in RULES:
            self.told(led(thirty_rows(rule)), thirty_rows(rule))

    def test_down_to_no_row_and_once_more(self):
        for record in records(15):
            rule, rows = record
            watch = led(record)
            for t in range(len(rows) - 1, -1, -1):
                before = watch.bars
                self.same(watch.back(), rows[t])
                self.told(watch, (rule, rows[:t]))
                # back takes the bars of the last row away.
                self.assertEqual(set(before) - set(watch.bars), set(bars_found_at(record, t)))
            self.assertIsNone(watch.back())
            self.assertIsNone(watch.back())
            for t, row in enumerate(rows):
                self.same(watch.lead(row=row), bars_found_at(record, t))
            self.told(watch, record)

    def test_led_on_another_way(self):
        rng = random.Random(205)
        for record in records(15):
            rule, rows = record
            watch = led(record)
            for _ in range(rng.randint(0, len(rows))):
                watch.back()
                rows = rows[:-1]
            for _ in range(4):
                row = made_row(rng, rows, closed_before(rows, len(rows)))
                if first_fault((rule, rows + (row,))) == len(rows) + 1:
                    rows += (row,)
                    self.same(watch.would(row=row), watch.lead(row))
            self.told(watch, (rule, rows))

    def test_rows_that_cannot_follow(self):
        rng = random.Random(206)
        words = set()
        for record in records(40):
            rule, rows = record
            watch = led(record)
            for _ in range(6):
                row = wrong_row(rng, rows)
                fault = first_fault((rule, rows + (row,)))
                if not isinstance(fault, int):
                    words.add((fault[0], row[0]))
                    for deed in (watch.lead, watch.would):
                        self.fields(InvalidPaper, {"word": fault[0], "at": fault[1]}, lambda: deed(row))
            self.told(watch, record)
        self.assertGreaterEqual(words, {("open", "cancel"), ("open", "order"), ("open", "prints"), ("closed", "call"),
                                        ("closed", "order"), ("size", "order"), ("price", "prints")})

    def test_rows_of_other_kinds(self):
        for rule in RULES:
            for rows in ((), ROWS):
                watch = led((rule, rows))
                for thing in ANY_VALUES + (watch, ROWS, ["prints", ()], ("cancel", True), ("prints", ((10, True, None),))):
                    if thing in (prints(), ("closed",)) or thing == ("cancel", 0) and thing[1] is not True:
                        continue
                    for deed in (watch.lead, watch.would):
                        self.fields(InvalidPaper, {"word": "shape", "at": -1}, lambda: deed(thing))
                self.fields(InvalidPaper, {"word": "closed" if rows else "open", "at": len(rows)},
                            lambda: watch.lead(("closed",) if rows else ("cancel", 0)))
                self.told(watch, (rule, rows))


class Asked(Own):
    def test_open_orders(self):
        watch = led(("time", ROWS + (("cancel", 1), prints((10, 2, 0)), order("ann", "buy", 9, 1))))
        for thing in ANY_VALUES + (6, 7, watch, 6.0):
            self.assertIs(thing in watch, type(thing) is int and thing == 6, thing)

    def test_rests(self):
        watch = led(("time", ROWS + (("cancel", 1),)))
        self.assertEqual((watch[0], watch[1]), (2, 2))
        watch.lead(prints((10, 2, 0)))
        self.assertEqual((watch[0], watch[1]), (0, 2))
        for thing in ANY_VALUES + (2, 4, 99, watch, slice(0, 1)):
            if type(thing) is not int or thing not in (0, 1):
                self.fields(UnknownOrder, {"n": thing}, lambda: watch[thing])

    def test_it_is_not_iterated_over(self):
        watch = led(("time", ROWS))
        for deed in (lambda: iter(watch), lambda: list(watch), lambda: [n for n in watch], lambda: tuple(watch)):
            with self.assertRaises(TypeError):
                deed()

    def test_properties_are_not_assigned(self):
        watch = led(("time", ROWS))
        for name in ("record", "bars", "first", "standing", "fronts"):
            with self.assertRaises(AttributeError):
                setattr(watch, name, ())
        self.told(watch, ("time", ROWS))


class Walks(Own):
    def test_a_generator(self):
        watch = led(("time", ROWS))
        self.assertTrue(inspect.isgenerator(watch.each()))
        self.same(list(watch.each()), [(3, (("front", 3, 0, 0, 2),))])

    def test_each_begun_before_the_watch_changes(self):
        rows = (order("ann", "buy", 10, 9), prints((9, 1, None)), prints(), prints((8, 1, None)), prints((7, 1, None)))
        for rule in RULES:
            record = rule, rows
            pairs = [(t, bars_found_at(record, t)) for t in (1, 3, 4)]
            changes = (lambda: watch.lead(prints((6, 1, None))), lambda: [watch.back() for _ in range(5)],
                       lambda: [watch.back(), watch.back(), watch.lead(prints((5, 1, None)))])
            for many in (1, 2, 3):
                for change in changes:
                    watch = led(record)
                    walk = watch.each()
                    begun = [next(walk) for _ in range(many)]
                    change()
                    self.same(begun + list(walk), pairs)

    def test_several_beside_each_other(self):
        watch = led(("price", (order("ann", "buy", 10, 9), prints((9, 1, None)), prints((8, 1, None)))))
        one = watch.each()
        first = next(one)
        watch.back()
        other = watch.each()
        self.same([first, next(other)], [(1, (("through", 1, 0, 0, None),))] * 2)
        watch.lead(prints((7, 1, None)))
        self.same(list(one), [(2, (("through", 2, 0, 0, None),))])
        self.same(list(other), [])
        self.same(len(list(watch.each())), 2)


class Blocks(Own):
    def test_the_name_is_the_watch(self):
        watch = led(("time", ROWS))
        with watch as name:
            self.assertIs(name, watch)
            name.lead(prints())
            self.told(watch, ("time", ROWS + (prints(),)))
        self.told(watch, ("time", ROWS))

    def test_back_below_where_it_began(self):
        for many in range(5):
            watch = led(("late", ROWS))
            with watch:
                for _ in range(many):
                    watch.back()
                watch.lead(prints((11, 1, None)))
                self.told(watch, ("late", ROWS[:4 - many] + (prints((11, 1, None)),)))
            self.told(watch, ("late", ROWS))

    def test_left_by_an_exception(self):
        watch = led(("time", ROWS[:3]))
        for error in (KeyError("x"), ValueError(), InvalidPaper("word", 1), KeyboardInterrupt(), GeneratorExit()):
            with self.assertRaises(type(error)) as caught:
                with watch:
                    watch.lead(ROWS[3])
                    watch.back()
                    watch.back()
                    raise error
            self.assertIs(caught.exception, error)
            self.told(watch, ("time", ROWS[:3]))
        with self.assertRaises(InvalidPaper):
            with watch:
                watch.lead(prints())
                watch.lead(None)
        self.told(watch, ("time", ROWS[:3]))

    def test_left_by_return_and_by_break(self):
        watch = led(("time", ROWS))

        def leave():
            with watch:
                watch.back()
                return len(watch)

        self.assertEqual((leave(), len(watch)), (3, 4))
        for _ in range(3):
            with watch:
                watch.back()
                break
        self.told(watch, ("time", ROWS))

    def test_within_one_another(self):
        watch = led(("time", ROWS[:2]))
        with watch as one:
            one.lead(ROWS[2])
            with watch as other:
                self.assertIs(one, other)
                for _ in range(3):
                    other.back()
                with watch:
                    watch.lead(prints())
                    watch.lead(prints())
                    self.assertEqual(len(watch), 2)
                self.told(watch, ("time", ()))
                watch.lead(order("cy", "sell", 3, 3))
            self.told(watch, ("time", ROWS[:3]))
            one.lead(ROWS[3])
            with self.assertRaises(KeyError):
                with watch:
                    watch.back()
                    raise KeyError
            self.told(watch, ("time", ROWS))
        self.told(watch, ("time", ROWS[:2]))

    def test_one_behind_the_other(self):
        watch = led(("price", ROWS))
        for many in (1, 2, 3):
            with watch:
                for _ in range(many):
                    watch.back()
            watch.lead(prints())
        self.told(watch, ("price", ROWS + (prints(),) * 3))

    def test_made_blocks(self):
        rng = random.Random(207)
        for record in records(10):
            self.block(rng, led(record), record, 3)

    def block(self, rng, watch, record, deep):
        """Blocks within one another, with rows that come and go in them; behind each one all is as before."""
        rule, rows = record
        with watch:
            for _ in range(4):
                deed = rng.random()
                if deed < 0.4:
                    self.same(watch.back(), rows[-1] if rows else None)
                    rows = rows[:-1]
                elif deed < 0.8:
                    row = made_row(rng, rows, closed_before(rows, len(rows)))
                    if first_fault((rule, rows + (row,))) == len(rows) + 1:
                        self.same(watch.lead(row), bars_found_at((rule, rows + (row,)), len(rows)))
                        rows += (row,)
                elif deep:
                    self.block(rng, watch, (rule, rows), deep - 1)
                self.same(watch.record, (rule, rows))
        self.told(watch, record)


class Copies(Own):
    def test_each_led_on_by_itself(self):
        for record in records(10):
            rule, rows = record
            watch = led(record)
            twin = watch.copy()
            self.assertIs(type(twin), Watch)
            self.assertIsNot(twin, watch)
            self.assertTrue(twin == watch)
            self.told(twin, record)
            watch.back()
            self.told(twin, record)
            self.told(watch, (rule, rows[:-1]))
            twin.lead(prints())
            self.told(watch, (rule, rows[:-1]))
            self.told(twin, (rule, rows + (prints(),)))

    def test_in_a_block(self):
        watch = led(("time", ROWS[:2]))
        with watch:
            watch.lead(ROWS[2])
            twin = watch.copy()
            with twin:
                twin.back()
                twin.back()
            twin.lead(ROWS[3])
        self.told(watch, ("time", ROWS[:2]))
        self.told(twin, ("time", ROWS))
        with twin:
            watch.lead(ROWS[2])
        self.told(watch, ("time", ROWS[:3]))

    def test_equal(self):
        for record in records(6):
            rule, rows = record
            self.assertIs(led(record) == led(record), True)
            self.assertIs(led(record) != led(record), False)
            self.assertIs(led(record) == led((rule, rows[:-1])), False)
            for other in RULES:
                self.assertIs(led(record) == led((other, rows)), other == rule)
        watch, way = led(("time", ROWS)), led(("time", ROWS))
        way.back()
        way.lead(prints((9, 1, None)))
        self.assertIs(watch == way, False)
        way.back()
        way.lead(ROWS[3])
        self.assertIs(watch == way, True)

    def test_equal_to_no_other_value(self):
        watch = led(("time", ROWS))
        for thing in ANY_VALUES + (watch.record, list(ROWS), Watch, "Watch"):
            self.assertIs(watch == thing, False)
            self.assertIs(watch != thing, True)
            self.assertIs(thing == watch, False)


class Arguments(Own):
    def test_they_stay_as_they_are(self):
        thing = ["prints", [(10, 1, None)]]
        before = copy.deepcopy(thing)
        watch = led(("time", ROWS))
        for deed in (lambda: watch.lead(thing), lambda: watch.would(thing), lambda: watch[thing], lambda: Watch(thing)):
            with self.assertRaises((InvalidPaper, NotUsable, UnknownOrder)):
                deed()
        self.assertIs(thing in watch, False)
        self.assertEqual(thing, before)

    def test_results_are_new(self):
        watch = led(("time", ROWS))
        found = list(watch.each())
        found.clear()
        self.assertEqual(len(list(watch.each())), 1)
        for result in (watch.record, watch.bars, watch.first, watch.standing, watch.fronts, next(watch.each())):
            self.assertIs(type(result), tuple)


if __name__ == "__main__":
    unittest.main()
