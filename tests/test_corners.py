import unittest
from fractions import Fraction

from calledmidway.books import Book
from calledmidway.corners import bends, forms_below, pace_form, passed, passings
from calledmidway.errors import InvalidBook, InvalidForm, InvalidTime, UnknownScene, UnknownThing
from calledmidway.forms import Form
from calledmidway.ratios import Ratio
from calledmidway.runs import Run
from tests.model import (
    GAP, SCENES, Model, example_book, plain, plain_value, plain_weights, random_calls, random_form, random_generator,
    random_model, ratio,
)
from tests.values import NO_FORMS, NO_LISTS, NO_TIMES, Other, no_names_of, told

BIG = 123456789012345678901234567890
NO_SCENES = no_names_of(["open", "shut"]) + [("open", "shut"), ("shut", "open"), "d", "zoom", Other()]
NO_BOOKS = NO_LISTS + [Book, SCENES, [], (), Run(example_book()), ["d", "l"]]
STRANGE = [(Form.of("x", "d", "v"), "v"), (Form({"open": 1, "l": 2}), "open"), (Form({"z": 1, "a": Ratio(1, 9)}), "a")]


def samples(number, many):
    """Some tuples of a model, its book, a scene, and a form with things of the book alone."""
    rng = random_generator(number)
    for _ in range(many):
        model = random_model(rng)
        yield model, model.book(), rng.choice(list(model.scenes)), random_form(rng, model.things)


def places(model):
    """Some places of the things of a model."""
    rng = random_generator(len(model.scenes))
    found = [{thing: Fraction(0) for thing in model.things}]
    for _ in range(3):
        found.append({thing: Fraction(rng.randint(-20, 20), rng.randint(1, 5)) for thing in model.things})
    return found


def lengths_of(model, scene, form):
    return sorted({model.scenes[scene][thing][1] for thing in plain_weights(form)})


def waits_of(model, scene):
    """Waits of 0, of each length, between lengths, and beyond all."""
    found = [0] + model.lengths(scene)
    between = [Ratio(one + other, 2) for one, other in zip(found, found[1:])]
    return found + between + [Ratio(1, BIG), found[-1] + 1, BIG]


class BendsTest(unittest.TestCase):
    def test_against_the_model(self):
        for model, book, scene, form in samples(61, 200):
            found = bends(book, scene, form)
            self.assertIs(found.__class__, list)
            self.assertEqual(found, lengths_of(model, scene, form))
            self.assertEqual({bend.__class__ for bend in found} - {int}, set())

    def test_only_live_things_and_each_length_once(self):
        scenes = {"a": {"d": (1, 5), "l": (2, 3), "v": (3, 5), "w": (4, BIG)}}
        book = Book(["d", "l", "v", "w"], scenes, [], "a")
        for names, expected in ((["d", "l", "v", "w"], [3, 5, BIG]), (["d", "v"], [5]), (["w"], [BIG]), (["l"], [3]),
                                ([], []), (["v", "l"], [3, 5])):
            self.assertEqual(bends(book, "a", Form.of(*names) + 2), expected)
        self.assertEqual(bends(form=Form({"d": 0, "l": Ratio(-1, 9)}), scene="a", book=book), [3])


class PassedTest(unittest.TestCase):
    def test_the_value_is_that_of_the_form_a_wait_behind_the_call(self):
        for model, book, scene, form in samples(62, 150):
            for wait in waits_of(model, scene):
                found = passed(book, scene, wait, form)
                self.assertIs(found.__class__, Form)
                for place in places(model):
                    self.assertEqual(plain_value(found, place),
                                     plain_value(form, model.behind(scene, plain(wait), place)))

    def test_weights_and_number(self):
        for model, book, scene, form in samples(63, 150):
            for wait in waits_of(model, scene):
                found = passed(book, scene, wait, form)
                shares = {
                    thing: min(Fraction(1), plain(wait) / model.scenes[scene][thing][1]) for thing in model.things
                }
                weights = plain_weights(form)
                kept = {thing: weight * (1 - shares[thing]) for thing, weight in weights.items() if shares[thing] < 1}
                self.assertEqual(plain_weights(found), kept)
                self.assertEqual(plain(found.number), plain(form.number) + sum(
                    weight * shares[thing] * model.scenes[scene][thing][0] for thing, weight in weights.items()))

    def test_by_0_and_beyond_all(self):
        for model, book, scene, form in samples(64, 60):
            self.assertEqual(passed(book, scene, 0, form), form)
            self.assertEqual(passed(book, scene, Ratio(0), form), form)
            alone = passed(book, scene, model.longest(scene) + 5, form)
            self.assertEqual((len(alone), alone.number), (0, form(book.goals(scene))))
            self.assertEqual(passed(book, scene, model.longest(scene), form), alone)

    def test_at_a_bend_something_is_no_longer_live(self):
        for model, book, scene, form in samples(65, 60):
            for bend in bends(book, scene, form):
                found = passed(book, scene, bend, form)
                self.assertLess(len(found), len(form))
                self.assertLess(len(found), len(passed(book, scene, Ratio(2 * bend - 1, 2), form)))
                self.assertLessEqual(set(found.live()), set(form.live()))

    def test_fractions_and_forms_without_things(self):
        form = Form({"d": Ratio(2, 3), "l": Ratio(-1, 7)}, Ratio(1, 5))
        self.assertEqual(passed(example_book(), "open", Ratio(1, 2), form),
                         Form({"d": Ratio(1, 2), "l": Ratio(-1, 8)}, Ratio(1, 5) + Ratio(50, 3) - Ratio(25, 14)))
        for wait in (0, 1, BIG):
            self.assertEqual(passed(example_book(), "open", wait, Form(None, Ratio(3, 2))), Form(None, Ratio(3, 2)))
        self.assertEqual(passed(form=GAP, wait=2, scene="open", book=example_book()), Form({"l": Ratio(-1, 2)}, 50))

    def test_through_all_calls_of_a_run_from_the_last_one_back(self):
        rng = random_generator(66)
        for _ in range(150):
            model = random_model(rng)
            book, form = model.book(), random_form(rng, model.things)
            run = Run(book, random_calls(rng, model))
            back = form
            for scene, wait in reversed(run.calls()):
                back = passed(book, scene, wait, back)
            self.assertEqual(back(book.goals(book.first)), form(run.end()))


class PaceFormTest(unittest.TestCase):
    def test_against_the_model(self):
        for model, book, scene, form in samples(67, 150):
            for since in waits_of(model, scene):
                found = pace_form(book, scene, form, since)
                self.assertIs(found.__class__, Form)
                for place in places(model):
                    self.assertEqual(plain_value(found, place), model.pace(scene, plain(since), place, form))

    def test_from_0_if_no_time_is_told(self):
        for model, book, scene, form in samples(68, 60):
            self.assertEqual(pace_form(book, scene, form), pace_form(book, scene, form, 0))
            self.assertEqual(pace_form(book, scene, form), pace_form(since=Ratio(0), form=form, scene=scene, book=book))

    def test_from_a_length_between_and_beyond(self):
        full = Form({"d": Ratio(-1, 2), "l": Ratio(1, 4)}, 25)
        half = Form({"l": Ratio(1, 4)}, -25)
        for since, expected in [(0, full), (1, full), (Ratio(2 * BIG - 1, BIG), full), (2, half), (3, half),
                                (Ratio(4 * BIG - 1, BIG), half), (4, Form()), (5, Form()), (BIG, Form())]:
            self.assertEqual(pace_form(example_book(), "open", GAP + 7, since), expected)
        self.assertEqual(pace_form(example_book(), "open", Form(None, 3)), Form())

    def test_the_pace_times_a_stretch_is_by_how_much_the_passed_form_grows(self):
        for model, book, scene, form in samples(69, 100):
            for since in waits_of(model, scene):
                further = [length - plain(since) for length in model.lengths(scene) if length > plain(since)]
                stretch = ratio(min(further + [1]) / Fraction(3))
                grown = passed(book, scene, stretch + since, form) - passed(book, scene, since, form)
                self.assertEqual(pace_form(book, scene, form, since) * stretch, grown)


class PassingsTest(unittest.TestCase):
    def test_against_passed(self):
        for model, book, scene, form in samples(70, 100):
            found = list(passings(book, scene, form))
            self.assertEqual([wait for wait, _ in found], [0] + lengths_of(model, scene, form))
            for row in found:
                self.assertEqual([part.__class__ for part in row], [int, Form])
                self.assertIs(row.__class__, tuple)
                self.assertEqual(row[1], passed(book, scene, row[0], form))

    def test_one_by_one(self):
        rows = passings(form=GAP, scene="open", book=example_book())
        self.assertIs(iter(rows), rows)
        self.assertEqual(next(rows), (0, GAP))
        self.assertEqual(next(rows), (2, Form({"l": Ratio(-1, 2)}, 50)))
        self.assertEqual(next(rows), (4, Form()))
        self.assertEqual(list(rows), [])
        self.assertEqual(list(passings(example_book(), "open", Form(None, 3))), [(0, Form(None, 3))])

    def test_errors_come_when_the_iteration_begins(self):
        for parts, error in [((None, "open", GAP), InvalidBook), ((example_book(), None, GAP), UnknownScene),
                             ((example_book(), "open", None), InvalidForm),
                             ((example_book(), "open", Form.of("v")), UnknownThing)]:
            rows = passings(*parts)
            told(lambda: next(rows), error)


def below(model, weights):
    """The weights of the forms below, as the document lists them."""
    found = [weights]
    for one in found:
        for scene in model.reached():
            lengths = {thing: model.scenes[scene][thing][1] for thing in one}
            for bend in sorted(set(lengths.values())):
                more = {thing: weight * (1 - Fraction(bend, lengths[thing])) for thing, weight in one.items()
                        if bend < lengths[thing]}
                if more not in found:
                    found.append(more)
    return found


class FormsBelowTest(unittest.TestCase):
    def test_in_the_sequence_of_the_document(self):
        most = 0
        for model, book, scene, form in samples(71, 150):
            found = forms_below(book, form)
            self.assertIs(found.__class__, list)
            self.assertEqual({one.__class__ for one in found}, {Form})
            self.assertEqual([plain_weights(one) for one in found], below(model, plain_weights(form)))
            self.assertEqual([one for one in found if one.number != Ratio(0)], [])
            most = max(most, len(found))
        self.assertGreater(most, 20)

    def test_the_example(self):
        self.assertEqual(forms_below(example_book(), GAP + 5),
                         [GAP, Form({"l": Ratio(-1, 2)}), Form(), Form({"d": Ratio(1, 2)})])
        self.assertEqual(forms_below(form=Form(None, 5), book=example_book()), [Form()])
        self.assertEqual(forms_below(example_book(), Form.of("d")), [Form.of("d"), Form()])

    def test_scenes_that_are_not_reached_have_no_effect(self):
        reached = {"b": {"d": (0, 1), "l": (0, 2)}}
        idle = {"a": {"d": (5, 5), "l": (5, 7)}, "c": {"d": (5, 8), "l": (5, 7)}}
        one = Book(["d", "l"], reached, [("b", "b")], "b")
        other = Book(["d", "l"], {**reached, **idle}, [("b", "b"), ("a", "b"), ("a", "c"), ("c", "b")], "b")
        self.assertEqual(forms_below(other, GAP), forms_below(one, GAP))
        self.assertEqual(forms_below(other, GAP), [GAP, Form({"l": Ratio(-1, 2)}), Form()])
        self.assertEqual(forms_below(other + ("b", "a"), GAP), [
            GAP, Form({"l": Ratio(-2, 7)}), Form(), Form({"l": Ratio(-1, 2)}), Form({"d": Ratio(1, 8)}),
        ])

    def test_resting_scenes_are_passed_too(self):
        self.assertEqual(forms_below(example_book(["open", "shut"]), GAP), forms_below(example_book(), GAP))

    def test_new_lists(self):
        first = forms_below(example_book(), GAP)
        first.clear()
        self.assertEqual(len(forms_below(example_book(), GAP)), 4)
        first = bends(example_book(), "open", GAP)
        first.append(9)
        self.assertEqual(bends(example_book(), "open", GAP), [2, 4])


class RefusedTest(unittest.TestCase):
    """What is refused, in the sequence of the parameters."""

    def test_books(self):
        for value in NO_BOOKS:
            for action in (lambda: bends(value, "x", None), lambda: passed(value, "x", -1, None),
                           lambda: pace_form(value, "x", None, -1), lambda: next(passings(value, "x", None)),
                           lambda: forms_below(value, None), lambda: bends(value, "open", GAP)):
                self.assertIs(told(action, InvalidBook).value, value)

    def test_scenes(self):
        book = example_book()
        for value in NO_SCENES:
            for action in (lambda: bends(book, value, None), lambda: passed(book, value, -1, None),
                           lambda: pace_form(book, value, None, -1), lambda: next(passings(book, value, None)),
                           lambda: passed(book, value, 1, GAP)):
                self.assertIs(told(action, UnknownScene).value, value)

    def test_waits_are_told_ahead_of_forms(self):
        book = example_book()
        for value in NO_TIMES:
            for form in (GAP, None, Form.of("v")):
                self.assertIs(told(lambda: passed(book, "open", value, form), InvalidTime).value, value)

    def test_forms(self):
        book = example_book()
        for value in NO_FORMS:
            for action in (lambda: bends(book, "open", value), lambda: passed(book, "open", 1, value),
                           lambda: pace_form(book, "open", value, -1), lambda: next(passings(book, "open", value)),
                           lambda: forms_below(book, value)):
                self.assertIs(told(action, InvalidForm).value, value)

    def test_things_that_the_book_has_not(self):
        book = example_book()
        for form, thing in STRANGE:
            for action in (lambda: bends(book, "open", form), lambda: passed(book, "open", 1, form),
                           lambda: pace_form(book, "open", form, -1), lambda: next(passings(book, "open", form)),
                           lambda: forms_below(book, form)):
                self.assertEqual(told(action, UnknownThing).value, thing)

    def test_times_are_told_behind_forms(self):
        for value in NO_TIMES:
            self.assertIs(told(lambda: pace_form(example_book(), "open", GAP, value), InvalidTime).value, value)
            self.assertIs(told(lambda: pace_form(example_book(), "open", GAP, since=value), InvalidTime).value, value)

    def test_the_example_of_the_stage(self):
        found = [bends(example_book(), "open", GAP), passed(example_book(), "open", 2, GAP),
                 len(forms_below(example_book(), GAP))]
        self.assertEqual(repr(found), "[[2, 4], Form({'l': Ratio(-1, 2)}, Ratio(50, 1)), 4]")
        for function in (bends, passed, pace_form, passings, forms_below):
            self.assertEqual(function.__module__, "calledmidway.corners")

    def test_what_was_passed_stays(self):
        book = Model(["d", "l"], SCENES, example_book().arrows(), "shut").book()
        form = GAP + 3
        for _ in range(2):
            found = [bends(book, "open", form), passed(book, "open", 1, form), pace_form(book, "open", form, 2),
                     list(passings(book, "shut", form)), forms_below(book, form)]
            self.assertEqual((book, form), (example_book(), GAP + 3))
            self.assertEqual(found[0], [2, 4])


if __name__ == "__main__":
    unittest.main()
