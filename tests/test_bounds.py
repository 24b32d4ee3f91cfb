import itertools
import unittest

from calledmidway.books import Book
from calledmidway.bounds import (
    fewest, greatest, greatest_at_calls, is_peak, keeps, least, pace_span, peak, run_to_value, span,
)
from calledmidway.drafts import Draft
from calledmidway.errors import InvalidBook, InvalidForm, InvalidNumber, UnknownScene, UnknownThing
from calledmidway.forms import Form
from calledmidway.ratios import Ratio
from calledmidway.runs import Run, highest
from tests.levels import SMALL, Levels, levels_tops, small
from tests.model import (
    GAP, SCENES, Model, example_book, plain, plain_value, plain_weights, random_calls, random_form,
    random_generator, random_model, ratio,
)
from tests.test_corners import NO_BOOKS, NO_SCENES, STRANGE
from tests.values import NO_FORMS, NO_LISTS, NO_NUMBERS, Other, told

BIG = 123456789012345678901234567890
TINY = Ratio(1, BIG)


class BoundsTest(unittest.TestCase):
    def setUp(self):
        self.book = example_book()

    def test_against_all_rows_of_calls(self):
        for parts in SMALL:
            for model, book, levels, forms in small(*parts):
                for form in forms:
                    low, high = -max(levels_tops(levels, -form)), max(levels_tops(levels, form))
                    self.assertEqual((plain(least(book, form)), plain(greatest(book, form))), (low, high))
                    self.assertEqual(span(book, form), (ratio(low), ratio(high)))
                    self.assertIs(keeps(book, form, ratio(high)), True)
                    self.assertIs(keeps(book, form, ratio(high) - TINY), False)

    def test_no_run_sees_more(self):
        rng = random_generator(95)
        for _ in range(150):
            model = random_model(rng)
            book, form = model.book(), random_form(rng, model.things)
            low, high = span(book, form)
            for _ in range(4):
                run = Run(book, random_calls(rng, model, 8))
                self.assertFalse(high.is_below(highest(run, form)[0]))
                self.assertFalse((-low).is_below(highest(run, -form)[0]))

    def test_the_turned_form(self):
        rng = random_generator(96)
        for _ in range(60):
            model = random_model(rng, 3)
            book, form = model.book(), random_form(rng, model.things)
            self.assertEqual(span(book, -form), (-greatest(book, form), -least(book, form)))
            self.assertEqual(greatest(book, form * Ratio(3, 2) + 5), greatest(book, form) * Ratio(3, 2) + 5)
            self.assertEqual(greatest(book, form.pure()) + form.number, greatest(book, form))

    def test_the_book_of_the_document(self):
        self.assertEqual((greatest(self.book, GAP), least(self.book, GAP)), (Ratio(50), Ratio(0)))
        self.assertEqual(span(form=GAP + 3, book=self.book), (Ratio(3), Ratio(53)))
        self.assertEqual(span(self.book, Form.of("d")), (Ratio(0), Ratio(100)))
        self.assertEqual(span(example_book(["open"]), GAP), (Ratio(0), Ratio(50)))
        self.assertEqual(span(example_book(["open", "shut"]), GAP), (Ratio(0), Ratio(50)))
        self.assertEqual(span(self.book - ("shut", "open"), GAP), (Ratio(0), Ratio(0)))

    def test_kinds_of_what_is_returned(self):
        for form in (GAP, Form(), Form(None, 3), Form.of("d")):
            self.assertIs(greatest(self.book, form).__class__, Ratio)
            self.assertIs(least(self.book, form).__class__, Ratio)
            self.assertIs(span(self.book, form).__class__, tuple)
            self.assertEqual([number.__class__ for number in span(self.book, form)], [Ratio, Ratio])
            self.assertIs(fewest(self.book, form).__class__, int)
            self.assertIs(peak(self.book, form).__class__, Run)
            self.assertIs(greatest_at_calls(self.book, "open", form).__class__, Ratio)
            self.assertIs(pace_span(self.book, "open", form).__class__, tuple)
            self.assertEqual([number.__class__ for number in pace_span(self.book, "open", form)], [Ratio, Ratio])

    def test_keeps(self):
        for bound, expected in ((50, True), (Ratio(50), True), (51, True), (BIG, True), (Ratio(99, 2), False),
                                (49, False), (0, False), (-BIG, False), (Ratio(50) - TINY, False)):
            self.assertIs(keeps(self.book, GAP, bound), expected)
            self.assertIs(keeps(bound=bound, form=GAP, book=self.book), expected)
        self.assertIs(keeps(self.book, -GAP, 0), True)
        self.assertIs(keeps(self.book, -GAP, -TINY), False)
        self.assertIs(keeps(self.book, Form(None, 3), 3), True)
        self.assertIs(keeps(self.book, Form(None, 3), 2), False)

    def test_forms_without_things(self):
        for number in (0, 3, Ratio(-1, 2)):
            form = Form(None, number)
            self.assertEqual(span(self.book, form), (form.number, form.number))
            self.assertEqual(fewest(self.book, form), 0)
            self.assertEqual(peak(self.book, form).counting(), 0)
            self.assertEqual(run_to_value(self.book, form, number).counting(), 0)
            self.assertIsNone(run_to_value(self.book, form, form.number + TINY))
            self.assertIsNone(run_to_value(self.book, form, form.number - TINY))
            self.assertEqual(pace_span(self.book, "open", form), (Ratio(0), Ratio(0)))
            self.assertEqual(greatest_at_calls(self.book, "open", form), form.number)

    def test_scenes_that_are_not_reached_have_no_effect(self):
        scenes = {**SCENES, "idle": {"d": (900, 1), "l": (-900, 9)}}
        book = Book(["d", "l"], scenes, self.book.arrows() + [("idle", "open"), ("idle", "idle")], "shut")
        self.assertEqual(span(book, GAP), span(self.book, GAP))
        self.assertEqual(pace_span(book, "open", GAP), pace_span(self.book, "open", GAP))
        self.assertEqual(greatest_at_calls(book, "open", GAP), greatest_at_calls(self.book, "open", GAP))
        self.assertIsNone(pace_span(book, "idle", GAP))
        self.assertIsNone(greatest_at_calls(book, "idle", GAP))
        self.assertEqual(greatest(book + ("shut", "idle"), GAP), Ratio(1800))

    def test_one_scene(self):
        book = Book(["d"], {"a": {"d": (5, 3)}}, [("a", "a")], "a")
        self.assertEqual((span(book, Form.of("d")), fewest(book, Form.of("d"))), ((Ratio(5), Ratio(5)), 0))
        self.assertEqual(span(book - ("a", "a"), -Form.of("d")), (Ratio(-5), Ratio(-5)))

    def test_repeated_calls(self):
        before = repr(self.book), repr(GAP)
        for action in (lambda: span(self.book, GAP), lambda: peak(self.book, GAP), lambda: fewest(self.book, GAP),
                       lambda: run_to_value(self.book, GAP, 20), lambda: pace_span(self.book, "open", GAP),
                       lambda: greatest_at_calls(self.book, "open", GAP)):
            self.assertEqual(action(), action())
        self.assertEqual((repr(self.book), repr(GAP)), before)

    def test_where_they_are_defined(self):
        for function in (greatest, least, span, keeps, peak, is_peak, fewest, run_to_value, greatest_at_calls,
                         pace_span):
            self.assertEqual(function.__module__, "calledmidway.bounds")


# Books in which none, one, two and three calls that count are needed.
STAIRS = {
    "a": {"d": (0, 1), "l": (0, 1), "v": (0, 1)}, "b": {"d": (60, 1), "l": (60, 2), "v": (60, 3)},
    "c": {"d": (0, 3), "l": (0, 1), "v": (0, 2)},
}


class PeakTest(unittest.TestCase):
    def assert_peak(self, book, form):
        run = peak(book, form)
        self.assertIs(run.__class__, Run)
        self.assertEqual((run.book, form(run.end())), (book, greatest(book, form)))
        self.assertEqual(Run(book, run.calls()), run)
        self.assertEqual(highest(run, form)[0], greatest(book, form))
        self.assertLessEqual(run.counting(), len(form))
        self.assertGreaterEqual(run.counting(), fewest(book, form))
        self.assertIs(is_peak(book, form, run), True)
        return run

    def test_against_all_rows_of_calls(self):
        needed = set()
        for parts in SMALL:
            for model, book, levels, forms in small(*parts):
                for form in forms + [-form for form in forms]:
                    self.assert_peak(book, form)
                    tops = levels.tops(form)
                    found = tops.index(max(levels_tops(levels, form)))
                    self.assertEqual(fewest(book, form), found)
                    needed.add(found)
        self.assertEqual(needed, {0, 1, 2, 3})

    def test_all_books_within_the_limits(self):
        rng = random_generator(97)
        for _ in range(80):
            model = random_model(rng)
            self.assert_peak(model.book(), random_form(rng, model.things))

    def test_the_book_of_the_document(self):
        book = example_book()
        run = self.assert_peak(book, GAP)
        self.assertEqual(run.counting(), 1)
        self.assertEqual([fewest(book, GAP), fewest(book, -GAP), fewest(form=Form(), book=book)], [1, 0, 0])
        self.assertEqual(peak(form=GAP, book=book), run)

    def test_resting_scenes_do_not_count(self):
        book = example_book(["open"])
        self.assertEqual((fewest(book, GAP), self.assert_peak(book, GAP).counting()), (0, 0))
        book = example_book(["shut"])
        self.assertEqual((fewest(book, GAP), self.assert_peak(book, GAP).counting()), (1, 1))

    def test_scenes_that_only_lead_there(self):
        scenes = {"a": {"d": (0, 3)}, "b": {"d": (-5, 3)}, "c": {"d": (-7, 3)}, "e": {"d": (9, 3)}}
        arrows = [("a", "b"), ("b", "c"), ("c", "e")]
        for resting in ([], ["a"], ["b"], ["b", "c"], ["a", "b", "c"], ["e"]):
            book = Book(["d"], scenes, arrows, "a", resting)
            run = self.assert_peak(book, Form.of("d"))
            self.assertEqual((greatest(book, Form.of("d")), fewest(book, Form.of("d"))),
                             (Ratio(9), 0 if "e" in resting else 1))
            self.assertEqual([scene for scene, _ in run.calls()], ["b", "c", "e"])

    def test_a_long_way_of_calls_with_the_wait_0(self):
        for names in ("abcefg", "gfecba", "ecbgaf"):
            scenes = {name: {"d": (0, 2), "l": (0, 2)} for name in names}
            scenes[names[0]] = {"d": (100, 1), "l": (100, 1)}
            scenes[names[-1]] = {"d": (0, 1000), "l": (0, 1)}
            for resting in ([], [names[0]]):
                book = Book(["d", "l"], scenes, list(zip(names, names[1:])), names[0], resting)
                run = self.assert_peak(book, GAP)
                self.assertEqual((greatest(book, GAP), fewest(book, GAP)), (Ratio(999, 10), 1))
                self.assertEqual(run.calls(), [(name, Ratio(1 if name == names[-1] else 0)) for name in names[1:]])
                self.assertEqual(greatest_at_calls(book, names[-1], Form.of("d")), Ratio(100))

    def test_more_calls_that_count(self):
        book = Book(["d", "l", "v"], STAIRS, list(itertools.product(STAIRS, STAIRS)), "a")
        expected = {}
        levels = Levels(Model(["d", "l", "v"], STAIRS, book.arrows(), "a"), 3)
        for weights in itertools.product((-1, 0, 1, 2), repeat=3):
            form = Form(dict(zip("dlv", weights)))
            self.assert_peak(book, form)
            tops = levels.tops(form)
            expected[weights] = tops.index(max(levels_tops(levels, form)))
            self.assertEqual((plain(greatest(book, form)), fewest(book, form)), (max(levels_tops(levels, form)),
                                                                                 expected[weights]))
        self.assertLessEqual({0, 1, 2}, set(expected.values()))

    def test_is_peak(self):
        book = example_book()
        for calls, expected in [
            ([("open", 2)], True), ([("open", 2), ("shut", 0)], True), ([("open", 2), ("shut", 0), ("open", 0)], True),
            ([("open", 9), ("shut", 2)], True), ([("open", 9), ("shut", 0), ("open", 1)], False),
            ([("open", 1)], False), ([], False), ([("open", 2), ("shut", 1)], True),
            ([("open", 3), ("shut", 1)], False), ([("open", 9), ("shut", 9), ("open", 2)], False),
            ([("open", 0), ("shut", 9), ("open", 2)], True), ([("open", Ratio(2) + TINY)], False),
        ]:
            self.assertIs(is_peak(book, GAP, Run(book, calls)), expected)
            self.assertIs(is_peak(value=Run(example_book(), calls), form=GAP, book=book), expected)
        self.assertIs(is_peak(book, -GAP, Run(book)), True)
        self.assertIs(is_peak(book, Form(None, 3), Run(book)), True)
        self.assertIs(is_peak(book, Form(None, 3), Run(book, [("open", 1)])), False)
        self.assertIs(is_peak(book, Form(None, 3), Run(book, [("open", 0)])), True)

    def test_is_peak_for_runs_of_other_books(self):
        book = example_book()
        for other in (example_book(["open"]), book + ("open", "open"), book * 2, book.moved("d", 1, 1),
                      Book(["d", "l"], SCENES, [("open", "shut"), ("shut", "open")], "open")):
            run = peak(other, GAP)
            self.assertIs(is_peak(other, GAP, run), True)
            self.assertIs(is_peak(book, GAP, run), False)
            self.assertIs(is_peak(other, GAP, peak(book, GAP)), False)

    def test_is_peak_for_values_of_other_kinds(self):
        book = example_book()
        for value in NO_LISTS + [
            [], (), [("open", 2)], (("open", 2),), 50, Ratio(50), book, repr(peak(book, GAP)), Run,
        ]:
            self.assertIs(is_peak(book, GAP, value), False)
            self.assertIs(is_peak(book, Form(), value), False)

    def test_calls_more_than_there_are_live_things(self):
        scenes = {"a": {"d": (0, 1)}, "b": {"d": (9, 2)}, "c": {"d": (9, 3)}}
        book = Book(["d"], scenes, list(itertools.product(scenes, scenes)), "a")
        form = Form.of("d")
        self.assertIs(is_peak(book, form, Run(book, [("b", 2)])), True)
        self.assertIs(is_peak(book, form, Run(book, [("b", 2), ("c", 1)])), False)
        self.assertIs(is_peak(book, form, Run(book, [("b", 2), ("c", 0), ("b", 0)])), True)


class RunToValueTest(unittest.TestCase):
    def assert_value(self, book, form, value):
        run = run_to_value(book, form, value)
        self.assertIs(run.__class__, Run)
        self.assertEqual((run.book, Run(book, run.calls())), (book, run))
        self.assertEqual(plain(form(run.end())), plain(value))

    def test_from_the_least_to_the_greatest(self):
        rng = random_generator(98)
        for _ in range(60):
            model = random_model(rng)
            book, form = model.book(), random_form(rng, model.things)
            low, high = span(book, form)
            for part in range(8):
                self.assert_value(book, form, low + (high - low) * Ratio(part, 7))
            for number in range(-(-low.top // low.bottom), high.top // high.bottom + 1, 7):
                self.assert_value(book, form, number)
            self.assert_value(book, form, form(book.goals(book.first)))
            for value in (low - TINY, high + TINY, low - 1, high + 1):
                self.assertIsNone(run_to_value(book, form, value))

    def test_the_book_of_the_document(self):
        book = example_book()
        for value in (0, 1, 25, 49, 50, Ratio(1, 3), TINY, Ratio(50) - TINY, Ratio(50), Ratio(0)):
            self.assert_value(book, GAP, value)
            self.assert_value(book, -GAP, -value)
            self.assert_value(book, GAP + 7, value + 7)
        for value in (-1, 51, Ratio(50) + TINY, -TINY, BIG, -BIG):
            self.assertIsNone(run_to_value(book, GAP, value))
            self.assertIsNone(run_to_value(value=value, form=GAP, book=book))


class AtCallsTest(unittest.TestCase):
    def test_against_all_rows_of_calls(self):
        for parts in SMALL:
            for model, book, levels, forms in small(*parts):
                for scene in model.scenes:
                    places = levels.called(scene)
                    self.assertEqual(places == [], model.callers(scene) == [])
                    for form in forms[:2]:
                        self.assert_at_calls(model, book, scene, form, places)

    def assert_at_calls(self, model, book, scene, form, places):
        found, paces = greatest_at_calls(book, scene, form), pace_span(book, scene, form)
        if not places:
            self.assertEqual((found, paces), (None, None))
            return
        self.assertEqual(plain(found), max(plain_value(form, place) for place in places))
        lengths = {model.scenes[scene][thing][1] for thing in plain_weights(form)}
        values = [model.pace(scene, since, place, form) for since in {0} | lengths for place in places]
        self.assertEqual((plain(paces[0]), plain(paces[1])), (min(values), max(values)))

    def test_paces_of_runs_are_within_the_span(self):
        rng = random_generator(99)
        for _ in range(100):
            model = random_model(rng)
            book, form = model.book(), random_form(rng, model.things)
            run = Run(book, random_calls(rng, model, 6))
            for (scene, _), paces, place in zip(run.calls(), run.paces(form), run.begun()):
                low, high = pace_span(book, scene, form)
                for pace in paces:
                    self.assertFalse(pace.is_below(low) or high.is_below(pace))
                self.assertFalse(greatest_at_calls(book, scene, form).is_below(form(place)))

    def test_the_book_of_the_document(self):
        book = example_book()
        self.assertEqual(pace_span(book, "open", GAP), (Ratio(-25), Ratio(25)))
        self.assertEqual(pace_span(form=GAP + 9, scene="shut", book=book), (Ratio(-25), Ratio(25)))
        self.assertEqual(pace_span(book, "open", Form.of("d")), (Ratio(0), Ratio(50)))
        self.assertEqual(greatest_at_calls(book, "open", GAP), Ratio(50))
        self.assertEqual(greatest_at_calls(form=GAP + 1, scene="open", book=book - ("open", "shut")), Ratio(1))

    def test_a_scene_without_a_caller(self):
        book = example_book() - ("open", "shut")
        self.assertIsNone(greatest_at_calls(book, "shut", GAP))
        self.assertIsNone(pace_span(book, "shut", GAP))
        self.assertEqual(pace_span(book, "open", GAP), (Ratio(-25), Ratio(25)))

    def test_resting_callers(self):
        book = example_book(["open", "shut"])
        self.assertEqual(greatest_at_calls(book, "open", GAP), Ratio(0))
        self.assertEqual(greatest_at_calls(book, "shut", GAP), Ratio(0))
        self.assertEqual(greatest_at_calls(book, "shut", Form.of("d", "l")), Ratio(200))
        self.assertEqual(pace_span(book, "open", Form.of("d")), (Ratio(0), Ratio(50)))
        self.assertEqual(pace_span(book, "shut", Form.of("d")), (Ratio(-25), Ratio(0)))

    def test_the_first_scene(self):
        # It is called by itself at the beginning alone, or by the scene that follows it.
        scenes = {"a": {"d": (7, 2)}, "b": {"d": (1, 2)}}
        for resting in ([], ["a"], ["a", "b"]):
            book = Book(["d"], scenes, [("a", "b"), ("b", "a")], "a", resting)
            self.assertEqual(greatest_at_calls(book, "b", Form.of("d")), Ratio(7))
            self.assertEqual(greatest_at_calls(book, "b", -Form.of("d")), Ratio(-7) if resting else Ratio(-1))
        book = Book(["d"], scenes, [("a", "a")], "a")
        self.assertEqual((greatest_at_calls(book, "a", Form.of("d")), pace_span(book, "a", Form.of("d"))),
                         (Ratio(7), (Ratio(0), Ratio(0))))


class ChangedBooksTest(unittest.TestCase):
    def told(self, book):
        forms = [GAP, -GAP, Form.of("d", "l"), Form({"d": 2, "l": Ratio(1, 3)}, 1)]
        return [(span(book, form), fewest(book, form), pace_span(book, "open", form), form(peak(book, form).end()),
                 greatest_at_calls(book, "shut", form)) for form in forms]

    def test_what_they_tell_is_what_a_book_made_anew_tells(self):
        book = example_book(["open"])
        first = self.told(book)
        seen = []
        for changed in (book + ("open", "open"), book + ("shut", "shut"), book - ("open", "shut"), book * 3, 7 * book,
                        book.moved("d", 2, 1), book.moved("l", -1, 5), book.moved("d", 0, 0)):
            anew = Draft.of_book(changed).made()
            self.assertEqual(self.told(changed), self.told(anew))
            self.assertEqual(self.told(book), first)
            seen.append(self.told(changed) != first)
        # The scene open rests, so that it is called by itself at its goals alone.
        self.assertEqual(seen, [False, True, True, True, True, True, True, True])

    def test_longer_lengths_change_paces_alone(self):
        book = example_book()
        for form in (GAP, Form.of("d", "l")):
            self.assertEqual(span(book * 5, form), span(book, form))
            low, high = pace_span(book, "open", form)
            self.assertEqual(pace_span(book * 5, "open", form), (low.over(5), high.over(5)))


class RefusedTest(unittest.TestCase):
    def test_books(self):
        for value in NO_BOOKS:
            for action in (lambda: greatest(value, None), lambda: least(value, None), lambda: span(value, None),
                           lambda: keeps(value, None, None), lambda: peak(value, None),
                           lambda: is_peak(value, None, None), lambda: fewest(value, None),
                           lambda: run_to_value(value, None, None), lambda: greatest_at_calls(value, None, None),
                           lambda: pace_span(value, None, None), lambda: greatest(value, GAP)):
                self.assertIs(told(action, InvalidBook).value, value)

    def test_scenes(self):
        book = example_book()
        for value in NO_SCENES:
            for action in (lambda: greatest_at_calls(book, value, None), lambda: pace_span(book, value, None),
                           lambda: greatest_at_calls(book, value, GAP), lambda: pace_span(book, value, GAP)):
                self.assertIs(told(action, UnknownScene).value, value)

    def actions(self, form):
        book = example_book()
        return [
            lambda: greatest(book, form), lambda: least(book, form), lambda: span(book, form),
            lambda: keeps(book, form, None), lambda: peak(book, form), lambda: is_peak(book, form, None),
            lambda: fewest(book, form), lambda: run_to_value(book, form, None), lambda: run_to_value(book, form, 1),
            lambda: greatest_at_calls(book, "open", form), lambda: pace_span(book, "open", form),
            lambda: greatest_at_calls(book - ("open", "shut"), "shut", form),
            lambda: pace_span(book - ("open", "shut"), "shut", form),
        ]

    def test_forms(self):
        for value in NO_FORMS:
            for action in self.actions(value):
                self.assertIs(told(action, InvalidForm).value, value)

    def test_things_that_the_book_has_not(self):
        for form, thing in STRANGE:
            for action in self.actions(form):
                self.assertEqual(told(action, UnknownThing).value, thing)

    def test_bounds_and_values(self):
        book = example_book()
        for value in NO_NUMBERS + [Other()]:
            self.assertIs(told(lambda: keeps(book, GAP, value), InvalidNumber).value, value)
            self.assertIs(told(lambda: run_to_value(book, GAP, value), InvalidNumber).value, value)
            self.assertIs(told(lambda: run_to_value(book, Form(), value), InvalidNumber).value, value)


class LimitsTest(unittest.TestCase):
    def test_four_things_and_six_scenes_with_long_numbers(self):
        rng = random_generator(100)
        for things, names in (("dlvw", "abc"), ("dl", "abcefg"), ("dlv", "abcef")):
            scenes = {
                name: {thing: (rng.randint(-BIG, BIG), rng.randint(1, BIG)) for thing in things} for name in names
            }
            for resting in ([], [names[1]]):
                book = Book(list(things), scenes, list(itertools.product(names, names)), names[0], resting)
                form = Form({thing: rng.choice([-1, 1]) * rng.randint(1, BIG) for thing in things})
                low, high = span(book, form)
                for one, value in ((form, high), (-form, -low)):
                    run = peak(book, one)
                    self.assertEqual((one(run.end()), run.counting()), (value, fewest(book, one)))
                middle = (low + high) * Ratio(1, 2)
                self.assertEqual(form(run_to_value(book, form, middle).end()), middle)
                self.assertEqual(len(pace_span(book, names[1], form)), 2)

    def test_the_example_of_the_stage(self):
        book = example_book()
        self.assertEqual(repr([span(book, GAP), pace_span(book, "open", GAP)]),
                         "[(Ratio(0, 1), Ratio(50, 1)), (Ratio(-25, 1), Ratio(25, 1))]")
        self.assertEqual(str(GAP(peak(book, GAP).end())), "50")


if __name__ == "__main__":
    unittest.main()
