import unittest

from calledmidway.books import Book
from calledmidway.bounds import greatest, keeps
from calledmidway.drafts import Draft
from calledmidway.errors import InvalidBook, InvalidForm, InvalidNumber, UnknownThing
from calledmidway.forms import Form
from calledmidway.ratios import Ratio
from calledmidway.tables import bound_table, is_bound_table, table_bound
from tests.model import (
    GAP, SCENES, Model, example_book, full_model, plain, random_form, random_generator, random_model, ratio,
)
from tests.oracle import least_bound
from tests.test_corners import NO_BOOKS, STRANGE
from tests.values import NO_FORMS, NO_LISTS, NO_NUMBERS, Like, Other, told

BIG = 123456789012345678901234567890
TINY = Ratio(1, BIG)
D, L = Form.of("d"), Form.of("l")

# One thing, two scenes; a table says that d is at most 8 in both.
SMALL = Model(["d"], {"a": {"d": (0, 1)}, "b": {"d": (8, 2)}, "z": {"d": (99, 3)}},
              [("a", "b"), ("b", "a"), ("z", "a"), ("z", "z")], "a")
ROWS = [("a", D, 8), ("b", D, 8)]
EXAMPLE = Model(["d", "l"], SCENES, [("open", "shut"), ("shut", "open")], "shut")


def samples(number, many, things=4, scenes=6):
    rng = random_generator(number)
    for at in range(many):
        model = full_model(rng, 3, 3) if at == 0 else random_model(rng, things, scenes)
        yield rng, model, model.book(), random_form(rng, model.things)


class BoundTableTest(unittest.TestCase):
    def assert_table(self, model, form, bound, table):
        self.assertIs(table.__class__, list)
        for row in table:
            self.assertIs(row.__class__, tuple)
            self.assertEqual([part.__class__ for part in row], [str, Form, Ratio])
            self.assertIn(row[0], model.scenes)
            self.assertEqual(row[1], row[1].pure())
            self.assertLessEqual(set(row[1].live()), set(model.things))
        self.assertEqual(len({(scene, repr(below)) for scene, below, _ in table}), len(table))
        found = least_bound(model, form, table)
        self.assertIsNotNone(found)
        self.assertLessEqual(found, plain(bound))
        self.assertIs(is_bound_table(model.book(), form, bound, table), True)
        self.assertEqual(table_bound(model.book(), form, table), ratio(found))

    def test_at_the_greatest_value_above_it_and_below_it(self):
        for _, model, book, form in samples(201, 120):
            value = greatest(book, form)
            for bound in (value, value + TINY, value + 1, value + BIG):
                self.assert_table(model, form, bound, bound_table(book, form, bound))
            for bound in (value - TINY, value - 1, value - BIG):
                self.assertIsNone(bound_table(book, form, bound))

    def test_the_book_of_the_document(self):
        book = example_book()
        self.assertIsNone(bound_table(book, GAP, 49))
        self.assert_table(EXAMPLE, GAP, 50, bound_table(book, GAP, 50))
        self.assert_table(EXAMPLE, -GAP, 0, bound_table(form=-GAP, bound=0, book=book))
        form = GAP + Ratio(1, 3)
        self.assert_table(EXAMPLE, form, Ratio(151, 3), bound_table(book, form, Ratio(151, 3)))
        self.assertIsNone(bound_table(book, form, 50))

    def test_forms_without_things(self):
        for resting in ((), ("open",), ("open", "shut")):
            book = example_book(resting)
            for number in (0, 3, Ratio(-7, 2)):
                form = Form(None, number)
                for bound in (number, form.number + TINY, BIG):
                    self.assertIs(is_bound_table(book, form, bound, bound_table(book, form, bound)), True)
                    self.assertIs(is_bound_table(book, form, bound, []), True)
                self.assertIsNone(bound_table(book, form, form.number - TINY))
                self.assertIs(is_bound_table(book, form, form.number - TINY, []), False)

    def test_scenes_that_are_not_reached(self):
        book = SMALL.book()
        self.assertEqual(greatest(book, D), Ratio(8))
        self.assert_table(SMALL, D, 8, bound_table(book, D, 8))
        self.assertIsNone(bound_table(book, D, Ratio(8) - TINY))
        self.assertIsNone(bound_table(book + ("a", "z"), D, Ratio(99) - TINY))
        self.assertIsNotNone(bound_table(book + ("a", "z"), D, 99))

    def test_resting_scenes(self):
        motions = {"a": {"d": (9, 2), "l": (0, 3)}, "b": {"d": (0, 3), "l": (7, 1)}, "c": {"d": (-5, 1), "l": (3, 4)}}
        arrows = [("a", "b"), ("b", "c"), ("c", "a"), ("c", "c"), ("b", "a")]
        for resting in (["a"], ["b"], ["a", "b"], ["c"], ["a", "b", "c"]):
            for first in "abc":
                model = Model(["d", "l"], motions, arrows, first, resting)
                for form in (D, L, D - L, L - D, D + L * Ratio(2, 3) - 4):
                    value = greatest(model.book(), form)
                    self.assert_table(model, form, value, bound_table(model.book(), form, value))
                    self.assertIsNone(bound_table(model.book(), form, value - TINY))

    def test_one_scene_alone(self):
        for resting in ([], ["a"]):
            for arrows in ([], [("a", "a")]):
                model = Model(["d"], {"a": {"d": (5, 3)}}, arrows, "a", resting)
                self.assert_table(model, D, 5, bound_table(model.book(), D, 5))
                self.assertIsNone(bound_table(model.book(), D, Ratio(5) - TINY))

    def test_kept_or_broken(self):
        for rng, model, book, form in samples(202, 60):
            bound = greatest(book, form) + rng.choice([0, 1, -1, TINY, -TINY, Ratio(rng.randint(-40, 40), 7)])
            self.assertIs(bound_table(book, form, bound) is not None, keeps(book, form, bound))

    def test_it_is_new_each_time(self):
        book, form = example_book(), GAP + 1
        before = repr(book), repr(form)
        table = bound_table(book, form, 51)
        again = bound_table(book, form, 51)
        self.assertEqual(table, again)
        self.assertIsNot(table, again)
        table.clear()
        self.assertEqual((bound_table(book, form, 51), repr(book), repr(form)), (again, *before))

    def test_changed_books(self):
        book = example_book(["open"])
        for changed in (book + ("open", "open"), book - ("open", "shut"), book * 3, book.moved("d", 2, 1),
                        book.moved("l", -1, 5)):
            anew = Draft.of_book(changed).made()
            value = greatest(anew, GAP)
            self.assertIs(is_bound_table(changed, GAP, value, bound_table(anew, GAP, value)), True)
            self.assertIs(is_bound_table(anew, GAP, value, bound_table(changed, GAP, value)), True)
            self.assertIsNone(bound_table(changed, GAP, value - TINY))
            self.assertIsNotNone(bound_table(book, GAP, 50))
            self.assertIsNone(bound_table(book, GAP, 49))

    def test_where_they_are_defined(self):
        for function in (bound_table, is_bound_table, table_bound):
            self.assertEqual(function.__module__, "calledmidway.tables")


class IsBoundTableTest(unittest.TestCase):
    def assert_verdict(self, model, form, rows):
        """Rows of the right kinds, no two alike, are a table just for the bounds that the model tells."""
        book, found = model.book(), least_bound(model, form, rows)
        self.assertEqual(table_bound(book, form, rows), None if found is None else ratio(found))
        if found is None:
            for bound in (0, BIG):
                self.assertIs(is_bound_table(book, form, bound, rows), False)
        else:
            for bound, expected in ((found, True), (found + 1, True), (found - 1, False)):
                self.assertIs(is_bound_table(book, form, ratio(bound), rows), expected)
            self.assertIs(is_bound_table(book, form, ratio(found) - TINY, rows), False)
        return found

    def test_one_row_left_out_and_one_number_changed(self):
        seen = {"out": set(), "less": set(), "more": set()}
        for rng, model, book, form in samples(203, 60, 3, 4):
            table = bound_table(book, form, greatest(book, form))
            for at, (scene, below, number) in enumerate(table):
                if len(table) > 12 and rng.random() < 0.7:
                    continue
                ahead, behind = table[:at], table[at + 1:]
                seen["out"].add(self.assert_verdict(model, form, ahead + behind) is None)
                for less in (TINY, Ratio(1), Ratio(40)):
                    rows = ahead + [(scene, below, number - less)] + behind
                    seen["less"].add(self.assert_verdict(model, form, rows) is None)
                    rows = ahead + [(scene, below, number + less)] + behind
                    seen["more"].add(self.assert_verdict(model, form, rows) is None)
        self.assertEqual([True in seen[key] for key in ("out", "less", "more")], [True, True, True])

    def test_more_than_one_change(self):
        for rng, model, book, form in samples(204, 60, 3, 4):
            rows = [row for row in bound_table(book, form, greatest(book, form)) if rng.random() < 0.97]
            more = rng.choice([0, 5, TINY])
            rows = [(scene, below, number + more + rng.choice([0, 0, 0, TINY, -TINY])) for scene, below, number in rows]
            rng.shuffle(rows)
            self.assert_verdict(model, form, rows)

    def test_all_numbers_greater(self):
        for _, model, book, form in samples(205, 40):
            value = greatest(book, form)
            rows = [(scene, below, number + 2) for scene, below, number in bound_table(book, form, value)]
            if len(form) > 0:
                self.assertEqual(self.assert_verdict(model, form, rows), plain(value) + 2)

    def test_rows_by_hand(self):
        book = SMALL.book()
        for rows, bound in [
            (ROWS, 8), (ROWS[::-1], 8), ([("a", D, 9), ("b", D, 9)], 9), ([("a", D, 8), ("b", D, 9)], None),
            ([("a", D, 9), ("b", D, 8)], None), ([("a", D, 7), ("b", D, 7)], None), (ROWS[:1], None), (ROWS[1:], None),
            ([], None), ([("a", D, Ratio(17, 2)), ("b", D, Ratio(17, 2))], Ratio(17, 2)),
            ([("a", D, Ratio(8) - TINY), ("b", D, Ratio(8) - TINY)], None),
            (ROWS + [("a", D * 2, 16), ("b", D * 2, 16)], 8), (ROWS + [("a", D * 2, 16), ("b", D * 2, 15)], None),
            (ROWS + [("b", D * 2, 16)], None), (ROWS + [("a", -D, 0), ("b", -D, 0)], 8),
            (ROWS + [("a", -D, 0), ("b", -D, Ratio(0) - TINY)], None), (ROWS + [("a", -D, -1), ("b", -D, -1)], None),
            # Forms without things.
            (ROWS + [("a", Form(), 0)], 8), (ROWS + [("b", Form(), BIG)], 8), (ROWS + [("b", Form(), -1)], None),
            (ROWS + [("a", Form(), Ratio(0) - TINY)], None),
            # Rows of scenes that are not reached, right ones and wrong ones.
            (ROWS + [("z", D, 99)], 8), (ROWS + [("z", D, -BIG)], 8), (ROWS + [("z", D * 5, 3)], 8),
            (ROWS + [("z", Form(), -3)], 8), ([("a", D, 8), ("z", D, 8)], None),
        ]:
            bound = None if bound is None else plain(bound)
            self.assertEqual(self.assert_verdict(SMALL, D, rows), bound, rows)
            self.assertEqual(self.assert_verdict(SMALL, D + 5, rows), None if bound is None else bound + 5)
            self.assertIs(is_bound_table(book, D, 8, rows), bound == 8)

    def test_each_condition_of_a_row(self):
        # The first scene at its goals; callers that rest, with a wait of 0 and with bends; what has no live things.
        book = Book(["d"], {"a": {"d": (5, 1)}}, [], "a")
        self.assertIs(is_bound_table(book, D, 5, [("a", D, 5)]), True)
        self.assertIs(is_bound_table(book, D, 5, [("a", D, 4)]), False)
        self.assertIs(is_bound_table(book, D, 6, [("a", D, 6)]), True)
        motions = {"a": {"d": (5, 1), "l": (0, 2)}, "b": {"d": (-3, 2), "l": (4, 6)}}
        resting = Model(["d", "l"], motions, [("a", "b")], "a", ["a"])
        form = D + L
        # In b: 5 at once, then -3 + 4/3 at the wait 2, and 1 at the wait 6.
        self.assertEqual(greatest(resting.book(), form), Ratio(5))
        for low, high, expected in ((5, 5, True), (5, 4, False), (4, 5, False), (6, 5, True), (5, 6, True)):
            self.assertIs(is_bound_table(resting.book(), form, 6, [("a", form, low), ("b", form, high)]), expected)
        self.assert_verdict(resting, form, [("a", form, 5), ("b", form, 5)])
        below = L * Ratio(2, 3)
        busy = Model(["d", "l"], motions, [("a", "b")], "a")
        rows = [("a", form, 5), ("b", form, 5), ("a", below, 0), ("b", below, Ratio(8, 3))]
        for at in range(4):
            self.assert_verdict(busy, form, rows[:at] + rows[at + 1:])
            scene, one, number = rows[at]
            for more in (-1, 1):
                self.assert_verdict(busy, form, rows[:at] + [(scene, one, number + more)] + rows[at + 1:])
        self.assertEqual(self.assert_verdict(busy, form, rows[:3]), 5)
        self.assertIsNone(self.assert_verdict(busy, form, rows[:2]))
        self.assertIsNone(self.assert_verdict(busy, form, [*rows[:2], ("a", below, Ratio(0) - TINY)]))

    def test_forms_without_things(self):
        book, form = SMALL.book(), Form(None, 3)
        for rows, right in [
            ([], True), ((), True), (ROWS, True), ([("a", D, 8)], False), ([("a", D, 7), ("b", D, 7)], False),
            ([("a", Form(), 0)], True), ([("a", Form(), -1)], False), ([("a", form, 3)], False),
            ([("z", D, -5)], True), ([("z", D, True)], False), ([("z", D + 1, 5)], False), (None, False),
        ]:
            self.assertIs(is_bound_table(book, form, 3, rows), right)
            self.assertIs(is_bound_table(book, form, 4, rows), right)
            self.assertIs(is_bound_table(book, form, Ratio(3) - TINY, rows), False)
            self.assertEqual(table_bound(book, form, rows), Ratio(3) if right else None)

    def test_a_tuple_in_the_place_of_a_list(self):
        book = SMALL.book()
        self.assertIs(is_bound_table(value=tuple(ROWS), bound=8, form=D, book=book), True)
        self.assertEqual(table_bound(form=D, book=book, value=tuple(ROWS)), Ratio(8))

    def test_more_rows_than_needed(self):
        for rng, model, book, form in samples(206, 25, 3, 3):
            other = random_form(rng, model.things)
            tables = [bound_table(book, one, greatest(book, one)) for one in (form, other)]
            rows = {(scene, repr(below)): (scene, below, number) for table in tables for scene, below, number in table}
            self.assertEqual(self.assert_verdict(model, form, list(rows.values())) is None, False)
            self.assertIs(is_bound_table(book, form, greatest(book, form), list(rows.values())), True)

    def test_tables_of_other_books_forms_and_bounds(self):
        for rng, model, book, form in samples(207, 40, 3, 3):
            other = random_form(rng, model.things)
            table = bound_table(book, other, greatest(book, other))
            self.assert_verdict(model, form, table)
            longer = Model(model.things, {
                scene: {thing: (goal + rng.randint(0, 1), length + rng.randint(0, 1))
                        for thing, (goal, length) in model.scenes[scene].items()} for scene in model.scenes
            }, model.arrows, model.first, model.resting)
            self.assert_verdict(longer, other, table)

    def test_values_that_are_no_tables(self):
        book = SMALL.book()
        for rows in [
            ROWS + ROWS[:1], ROWS + [("a", D, 9)], ROWS + [("a", Form.of("d") * 1, 8)],
            ROWS + [("z", D, 1), ("z", D, 1)],
            [("a", D + 1, 9), ("b", D + 1, 9)], ROWS + [("a", D + 1, 9)], ROWS + [("z", D + 1, 9)],
            ROWS + [("nowhere", D, 8)], ROWS + [("d", D, 8)], ROWS + [("a", L, 8)], ROWS + [("z", L, 8)],
            ROWS + [("z", D + L, 8)], ROWS + [(["a"], D * 2, 8)], ROWS + [(b"z", D, 8)], ROWS + [(None, D, 8)],
            [["a", D, 8], ["b", D, 8]], [ROWS[0], list(ROWS[1])], [ROWS[0], ("b", D)], [ROWS[0], ("b", D, 8, 8)],
            ROWS + [()], ROWS + [("z", D)], ROWS + [["z", D, 8]], ROWS + [("z",)],
            ROWS + [("z", {"d": 1}, 8)], ROWS + [("z", "d", 8)], ROWS + [("z", None, 8)], ROWS + [("z", 0, 8)],
            [ROWS, ROWS], [ROWS], [ROWS[0], None], [None], [1], ["a"], [D],
        ]:
            for value in (rows, tuple(rows)):
                self.assertIs(is_bound_table(book, D, 8, value), False, value)
                self.assertIs(is_bound_table(book, D, BIG, value), False, value)
                self.assertIsNone(table_bound(book, D, value))

    def test_numbers_of_rows(self):
        book = SMALL.book()
        for value in NO_NUMBERS:
            for rows in ([("a", D, value), ("b", D, value)], ROWS + [("z", D, value)], [ROWS[0], ("b", D, value)]):
                self.assertIs(is_bound_table(book, D, BIG, rows), False)
                self.assertIsNone(table_bound(book, D, rows))
        # True is not 1.
        book = SMALL.book().moved("d", 0, 1)
        self.assertIs(is_bound_table(book, D, 1, [("a", D, 1), ("b", D, 1)]), True)
        self.assertIs(is_bound_table(book, D, 1, [("a", D, True), ("b", D, True)]), False)
        self.assertIs(is_bound_table(book, D, 1, [("a", D, 1), ("b", D, True)]), False)

    def test_values_that_are_no_lists(self):
        book = SMALL.book()
        for value in NO_LISTS + [{row: 1 for row in ("a", "b")}, {"a": ROWS}, "ab", SMALL.book(), Like(), D]:
            self.assertIs(is_bound_table(book, D, 8, value), False)
            self.assertIs(is_bound_table(book, Form(), 8, value), False)
            self.assertIsNone(table_bound(book, D, value))
            self.assertIsNone(table_bound(book, Form(), value))
        for part in (Like(), Other()):
            for row in ((part, D, 8), ("z", part, 8), ("z", D, part)):
                self.assertIs(is_bound_table(book, D, 8, ROWS + [row]), False)

    def test_values_are_not_changed(self):
        book, rows = SMALL.book(), list(ROWS)
        for _ in range(2):
            self.assertIs(is_bound_table(book, D, 8, rows), True)
            self.assertEqual(table_bound(book, D, rows), Ratio(8))
        self.assertEqual(rows, ROWS)


class RefusedTest(unittest.TestCase):
    def test_books(self):
        for value in NO_BOOKS:
            for action in (lambda: bound_table(value, None, None), lambda: is_bound_table(value, None, None, None),
                           lambda: table_bound(value, None, None), lambda: bound_table(value, GAP, 50)):
                self.assertIs(told(action, InvalidBook).value, value)

    def actions(self, form):
        book = example_book()
        return [
            lambda: bound_table(book, form, None), lambda: is_bound_table(book, form, None, None),
            lambda: table_bound(book, form, None), lambda: bound_table(book, form, 1),
            lambda: is_bound_table(book, form, 1, []), lambda: table_bound(book, form, []),
        ]

    def test_forms(self):
        for value in NO_FORMS:
            for action in self.actions(value):
                self.assertIs(told(action, InvalidForm).value, value)
        for form, thing in STRANGE:
            for action in self.actions(form):
                self.assertEqual(told(action, UnknownThing).value, thing)

    def test_bounds(self):
        book = example_book()
        for value in NO_NUMBERS + [Other()]:
            for form in (GAP, Form()):
                self.assertIs(told(lambda: bound_table(book, form, value), InvalidNumber).value, value)
                self.assertIs(told(lambda: is_bound_table(book, form, value, []), InvalidNumber).value, value)
                self.assertIs(told(lambda: is_bound_table(book, form, value, None), InvalidNumber).value, value)


class LimitsTest(unittest.TestCase):
    def test_great_books(self):
        rng = random_generator(208)
        for things, scenes in ((4, 3), (3, 5), (2, 6)):
            model = full_model(rng, things, scenes)
            model.scenes = {
                scene: {thing: (rng.randint(-BIG, BIG), rng.randint(1, BIG)) for thing in model.things}
                for scene in model.scenes
            }
            form = Form({thing: rng.choice([-1, 1]) * rng.randint(1, BIG) for thing in model.things})
            value = greatest(model.book(), form)
            table = bound_table(model.book(), form, value)
            self.assertEqual(least_bound(model, form, table), plain(value))
            self.assertIs(is_bound_table(model.book(), form, value, table), True)
            self.assertIs(is_bound_table(model.book(), form, value - TINY, table), False)
            self.assertIsNone(bound_table(model.book(), form, value - TINY))


if __name__ == "__main__":
    unittest.main()
