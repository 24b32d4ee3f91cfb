import unittest

from calledmidway.books import Book
from calledmidway.bounds import greatest
from calledmidway.drafts import Draft
from calledmidway.errors import InvalidBook, InvalidForm, InvalidKind, InvalidNumber, UnknownThing
from calledmidway.forms import Form
from calledmidway.ratios import Ratio
from calledmidway.shares import KINDS, ShareRun, are_shares
from calledmidway.tables import bound_table, is_bound_table
from calledmidway.ways import greatest_by, is_table_by, peak_by, table_by
from tests.model import (
    GAP, SCENES, Model, example_book, full_model, plain, plain_place, plain_value, random_form, random_generator,
    random_model, ratio,
)
from tests.oracle import SHARE_SAMPLES, least_bound, share_samples
from tests.test_corners import NO_BOOKS, STRANGE
from tests.test_shares import NO_KINDS, random_share_calls
from tests.values import NO_FORMS, NO_LISTS, NO_NUMBERS, Like, Other, told

BIG = 123456789012345678901234567890
TINY = Ratio(1, BIG)
D, L = Form.of("d"), Form.of("l")
EXAMPLE = Model(["d", "l"], SCENES, [("open", "shut"), ("shut", "open")], "shut")


class GreatestByTest(unittest.TestCase):
    def assert_peak(self, book, form, kind, value):
        run = peak_by(book, form, kind)
        self.assertEqual((run.__class__, run.book, run.kind), (ShareRun, book, kind))
        self.assertEqual(ShareRun(book, kind, run.calls()), run)
        for scene, shares in run.calls():
            self.assertIs(are_shares(book, scene, kind, shares), True)
        self.assertEqual((form(run.end()), greatest_by(book, form, kind)), (value, value))
        return run

    def test_against_all_ends_of_share_runs_with_corner_shares(self):
        for parts in SHARE_SAMPLES:
            for model, book, ends, forms in share_samples(*parts):
                for form in forms + [-form for form in forms]:
                    for kind in ("one", "own"):
                        value = greatest_by(book, form, kind)
                        self.assertEqual((plain(value), value.__class__), (ends[kind].top(form), Ratio))
                        self.assert_peak(book, form, kind, value)

    def test_even_ways(self):
        rng = random_generator(321)
        for _ in range(60):
            model = random_model(rng)
            book, form = model.book(), random_form(rng, model.things)
            self.assertEqual(greatest_by(book, form, "even"), greatest(book, form))
            self.assert_peak(book, form, "even", greatest(book, form))

    def test_even_within_one_within_own(self):
        rng, seen = random_generator(322), set()
        for _ in range(60):
            model = random_model(rng)
            book, form = model.book(), random_form(rng, model.things)
            even, one, own = [plain(greatest_by(book, form, kind)) for kind in KINDS]
            self.assertLessEqual(even, one)
            self.assertLessEqual(one, own)
            seen.add((even == one, one == own))
        self.assertEqual(len(seen), 4)

    def test_no_share_run_sees_more(self):
        rng = random_generator(323)
        for _ in range(60):
            model = random_model(rng)
            book, form = model.book(), random_form(rng, model.things)
            for kind in KINDS:
                top = greatest_by(book, form, kind)
                for _ in range(3):
                    run = ShareRun(book, kind, random_share_calls(rng, model, kind))
                    self.assertFalse(top.is_below(form(run.end())))

    def test_the_book_of_the_document(self):
        book = example_book()
        self.assertEqual([greatest_by(book, GAP, kind) for kind in KINDS], [Ratio(50), Ratio(100), Ratio(100)])
        self.assertEqual([greatest_by(book, -GAP, kind) for kind in KINDS], [Ratio(0), Ratio(0), Ratio(100)])
        self.assertEqual(greatest_by(kind="one", form=GAP + Ratio(1, 3), book=book), Ratio(301, 3))
        self.assertEqual(peak_by(kind="own", form=GAP, book=book), peak_by(book, GAP, "own"))

    def test_resting_scenes(self):
        for resting, numbers in [((), (50, 100, 100)), (("open",), (50, 100, 100)), (("shut",), (50, 100, 100)),
                                 (("open", "shut"), (50, 100, 100))]:
            book = example_book(resting)
            self.assertEqual([plain(greatest_by(book, GAP, kind)) for kind in KINDS], list(numbers))
        motions = {"a": {"d": (0, 1), "l": (0, 2)}, "b": {"d": (9, 1), "l": (9, 2)}, "c": {"d": (9, 1), "l": (30, 2)}}
        book = Book(["d", "l"], motions, [("a", "b"), ("b", "c")], "a")
        self.assertEqual(greatest_by(book, L - D, "own"), Ratio(30))
        # When b rests, d has come to 9 before c is called, but the first scene can be left at once.
        resting = Book(["d", "l"], motions, book.arrows(), "a", ["a", "b"])
        self.assertEqual(greatest_by(resting, L - D, "own"), Ratio(21))
        self.assert_peak(resting, L - D, "own", Ratio(21))

    def test_forms_without_things(self):
        for kind in KINDS:
            for number in (0, Ratio(7, 2), -3):
                form = Form(None, number)
                self.assert_peak(example_book(), form, kind, form.number)

    def test_scenes_that_are_not_reached(self):
        scenes = {**SCENES, "idle": {"d": (900, 1), "l": (-900, 9)}}
        book = Book(["d", "l"], scenes, example_book().arrows() + [("idle", "open")], "shut")
        for kind in KINDS:
            self.assertEqual(greatest_by(book, GAP, kind), greatest_by(example_book(), GAP, kind))
            self.assertEqual(greatest_by(book + ("open", "idle"), GAP, kind), Ratio(1800))

    def test_changed_books(self):
        book = example_book(["open"])
        for changed in (book + ("open", "open"), book - ("open", "shut"), book * 3, book.moved("d", 2, 1),
                        book.moved("l", -1, 5)):
            anew = Draft.of_book(changed).made()
            for kind in KINDS:
                value = greatest_by(anew, GAP, kind)
                self.assertEqual(greatest_by(changed, GAP, kind), value)
                self.assert_peak(changed, GAP, kind, value)
                self.assertIs(is_table_by(changed, GAP, value, kind, table_by(anew, GAP, value, kind)), True)
            self.assertEqual([greatest_by(book, GAP, kind) for kind in KINDS], [Ratio(50), Ratio(100), Ratio(100)])

    def test_repeated_calls(self):
        book = example_book()
        for kind in KINDS:
            for action in (lambda: greatest_by(book, GAP, kind), lambda: peak_by(book, GAP, kind),
                           lambda: table_by(book, GAP, 100, kind)):
                self.assertEqual(action(), action())

    def test_where_they_are_defined(self):
        for function in (greatest_by, peak_by, table_by, is_table_by):
            self.assertEqual(function.__module__, "calledmidway.ways")


class TableByTest(unittest.TestCase):
    def samples(self, number, many):
        rng = random_generator(number)
        for at in range(many):
            model = full_model(rng, 3, 3) if at == 0 else random_model(rng, 4, 4)
            yield rng, model, model.book(), random_form(rng, model.things)

    def assert_verdict(self, model, form, rows, kind):
        """Rows of the right kinds, no two alike, are a table just for the bounds that the model tells."""
        book, found = model.book(), least_bound(model, form, rows, kind)
        bounds = [(0, False), (BIG, False)] if found is None else [
            (ratio(found), True), (ratio(found) + 1, True), (ratio(found) - TINY, False), (ratio(found) - 1, False)]
        for bound, expected in bounds:
            self.assertIs(is_table_by(book, form, bound, kind, rows), expected)
        return found

    def test_at_the_greatest_value_above_it_and_below_it(self):
        for _, model, book, form in self.samples(331, 25):
            for kind in KINDS:
                value = greatest_by(book, form, kind)
                for bound in (value, value + TINY, value + BIG):
                    table = table_by(book, form, bound, kind)
                    self.assertIs(table.__class__, list)
                    for row in table:
                        self.assertEqual([part.__class__ for part in row], [str, Form, Ratio])
                        self.assertEqual(row[1], row[1].pure())
                    self.assertIsNotNone(self.assert_verdict(model, form, table, kind))
                    self.assertIs(is_table_by(book, form, bound, kind, table), True)
                    self.assertIs(is_table_by(book, form, bound, kind, tuple(table)), True)
                for bound in (value - TINY, value - BIG):
                    self.assertIsNone(table_by(book, form, bound, kind))

    def test_one_row_left_out_and_one_number_changed(self):
        seen = {kind: set() for kind in KINDS}
        for rng, model, book, form in self.samples(332, 16):
            for kind in KINDS:
                table = table_by(book, form, greatest_by(book, form, kind), kind)
                for at, (scene, below, number) in enumerate(table):
                    if len(table) > 8 and rng.random() < 0.85:
                        continue
                    ahead, behind = table[:at], table[at + 1:]
                    seen[kind].add(self.assert_verdict(model, form, ahead + behind, kind) is None)
                    for more in (TINY, -TINY, 3):
                        rows = ahead + [(scene, below, number + more)] + behind
                        seen[kind].add(self.assert_verdict(model, form, rows, kind) is None)
        self.assertEqual(seen, {kind: {True, False} for kind in KINDS})

    def test_tables_of_other_kinds_and_books(self):
        seen = set()
        for rng, model, book, form in self.samples(333, 30):
            tables = {kind: table_by(book, form, greatest_by(book, form, kind), kind) for kind in KINDS}
            for kind in KINDS:
                for other in KINDS:
                    seen.add((kind, other, self.assert_verdict(model, form, tables[other], kind) is not None))
                other = Model(model.things, model.scenes, model.arrows, rng.choice(list(model.scenes)), model.resting)
                self.assert_verdict(other, form, tables[kind], kind)
        # What is right for own ways is right for one way.
        self.assertLessEqual({(kind, other, True) for kind in KINDS for other in KINDS} | {
            ("even", "one", False), ("even", "own", False), ("one", "even", False), ("own", "even", False),
            ("own", "one", False)}, seen)
        self.assertNotIn(("one", "own", False), seen)

    def test_even_tables_are_those_of_before(self):
        for _, _, book, form in self.samples(334, 30):
            value = greatest(book, form)
            self.assertIs(is_bound_table(book, form, value, table_by(book, form, value, "even")), True)
            self.assertIs(is_table_by(book, form, value, "even", bound_table(book, form, value)), True)
            self.assertIsNone(table_by(book, form, value - TINY, "even"))

    def test_rows_by_hand(self):
        # One thing that all kinds lead alike, and a scene that is not reached.
        scenes = {"a": {"d": (0, 1)}, "b": {"d": (8, 2)}, "z": {"d": (9, 1)}}
        model = Model(["d"], scenes, [("a", "b"), ("b", "a")], "a")
        book, rows = model.book(), [("a", D, 8), ("b", D, 8)]
        for kind in KINDS:
            for value, bound in [
                (rows, 8), (rows[::-1], 8), (rows[:1], None), (rows[1:], None), ([("a", D, 9), ("b", D, 9)], 9),
                ([("a", D, 8), ("b", D, 9)], None), ([("a", D, 7), ("b", D, 7)], None), (rows + [("z", D, -5)], 8),
                (rows + [("a", Form(), 0)], 8), (rows + [("a", Form(), Ratio(0) - TINY)], None), ([], None),
            ]:
                found = self.assert_verdict(model, D, value, kind)
                self.assertEqual(found, bound)
                self.assertIs(is_table_by(value=value, kind=kind, bound=8, form=D, book=book), bound == 8)

    def test_rows_of_own_and_one_by_hand(self):
        # In open the length of d is less than that of l, in shut it is greater.
        book = example_book()
        one = [("open", GAP, 100), ("shut", GAP, 100), ("open", D, 100), ("shut", D, 100), ("open", -L, 0),
               ("shut", -L, 0)]
        for kind, rows, bound, expected in [
            ("one", one, 100, True), ("one", one, 99, False), ("one", one[:4], 100, False),
            ("one", one[:2], 100, False),
            ("one", one[:2] + one[4:], 100, False), ("own", one, 100, True), ("own", one[:4], 100, False),
            ("own", one[:4] + one[4:5], 100, False),
            ("own", one[:4] + [("open", -L, -1), ("shut", -L, -1)], 100, False),
            ("even", one, 100, False), ("own", [("open", GAP, 100), ("shut", GAP, 99), *one[2:]], 100, False),
        ]:
            self.assertIs(is_table_by(book, GAP, bound, kind, rows), expected, (kind, rows))
            if rows:
                self.assertEqual(least_bound(EXAMPLE, GAP, rows, kind) is not None and bound == 100, expected)

    def test_forms_without_things(self):
        book = example_book()
        for kind in KINDS:
            form = Form(None, 3)
            self.assertIs(is_table_by(book, form, 3, kind, table_by(book, form, 3, kind)), True)
            self.assertIs(is_table_by(book, form, 3, kind, []), True)
            self.assertIs(is_table_by(book, form, 3, kind, ()), True)
            self.assertIs(is_table_by(book, form, Ratio(3) - TINY, kind, []), False)
            self.assertIsNone(table_by(book, form, Ratio(3) - TINY, kind))
            self.assertIs(is_table_by(book, form, 3, kind, [("open", D, 7)]), False)
            self.assertIs(is_table_by(book, form, 3, kind, [("open", D, 100), ("shut", D, 100)]), True)

    def test_values_that_are_no_tables(self):
        book = Book(["d"], {"a": {"d": (1, 1)}, "z": {"d": (9, 1)}}, [("a", "a")], "a")
        rows = [("a", D, 1)]
        for kind in KINDS:
            self.assertIs(is_table_by(book, D, 1, kind, rows), True)
            for value in [rows * 2, rows + [("z", D, 1)] * 2, [("a", D, True)], [["a", D, 1]], [("a", D)],
                          [("a", D, 1, 1)], rows + [("x", D, 1)], rows + [("z", L, 1)], rows + [("z", D + 1, 1)],
                          rows + [("z", D, None)], rows + [None], [("a", D + 1, 2)], rows + [(Like(), D, 1)],
                          rows + [("z", Like(), 1)],
                          rows + [("z", D, Like())], [rows]]:
                self.assertIs(is_table_by(book, D, BIG, kind, value), False)
            for value in NO_LISTS + [Like(), book, {"a": rows}]:
                self.assertIs(is_table_by(book, D, BIG, kind, value), False)
                self.assertIs(is_table_by(book, Form(), BIG, kind, value), False)


class RefusedTest(unittest.TestCase):
    def test_books(self):
        for value in NO_BOOKS:
            for action in (lambda: greatest_by(value, None, None), lambda: peak_by(value, None, None),
                           lambda: table_by(value, None, None, None),
                           lambda: is_table_by(value, None, None, None, None)):
                self.assertIs(told(action, InvalidBook).value, value)

    def actions(self, form, kind):
        book = example_book()
        return [lambda: greatest_by(book, form, kind), lambda: peak_by(book, form, kind),
                lambda: table_by(book, form, 1, kind), lambda: is_table_by(book, form, 1, kind, [])]

    def test_forms(self):
        book = example_book()
        for kind in ("even", None):
            for value in NO_FORMS:
                for action in self.actions(value, kind):
                    self.assertIs(told(action, InvalidForm).value, value)
            for form, thing in STRANGE:
                for action in self.actions(form, kind):
                    self.assertEqual(told(action, UnknownThing).value, thing)
        self.assertIs(told(lambda: table_by(book, 1, None, None), InvalidForm).value, 1)
        self.assertIs(told(lambda: is_table_by(book, 1, None, None, None), InvalidForm).value, 1)

    def test_bounds(self):
        book = example_book()
        for value in NO_NUMBERS + [Other()]:
            for kind in ("own", None):
                self.assertIs(told(lambda: table_by(book, GAP, value, kind), InvalidNumber).value, value)
                self.assertIs(told(lambda: is_table_by(book, GAP, value, kind, None), InvalidNumber).value, value)

    def test_kinds(self):
        for value in NO_KINDS:
            for form in (GAP, Form()):
                for action in self.actions(form, value):
                    self.assertIs(told(action, InvalidKind).value, value)


class LimitsTest(unittest.TestCase):
    def test_great_books(self):
        rng = random_generator(335)
        for things, scenes in ((4, 3), (3, 5), (2, 6)):
            for size in (12, BIG):
                model = full_model(rng, things, scenes)
                model.scenes = {
                    scene: {thing: (rng.randint(-size, size), rng.randint(1, size)) for thing in model.things}
                    for scene in model.scenes
                }
                book = model.book()
                form = Form({thing: rng.choice([-1, 1]) * rng.randint(1, size) for thing in model.things})
                for kind in KINDS:
                    value = greatest_by(book, form, kind)
                    self.assertEqual(form(peak_by(book, form, kind).end()), value)
                    table = table_by(book, form, value, kind)
                    self.assertEqual(least_bound(model, form, table, kind), plain(value))
                    self.assertIs(is_table_by(book, form, value, kind, table), True)

    def test_the_ends_are_seen(self):
        for model, book, ends, forms in share_samples(*SHARE_SAMPLES[1]):
            for form in forms:
                for kind in ("one", "own"):
                    place = plain_place(peak_by(book, form, kind).end())
                    self.assertEqual(plain_value(form, place), ends[kind].top(form))


if __name__ == "__main__":
    unittest.main()
