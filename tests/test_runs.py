import copy
import itertools
import unittest
from fractions import Fraction

from calledmidway.books import Book
from calledmidway.errors import (
    InvalidBook, InvalidCalls, InvalidForm, InvalidNumber, InvalidRun, InvalidTime, NoArrow, NotAllowed, TooEarly,
    UnknownThing,
)
from calledmidway.forms import Form
from calledmidway.ratios import Ratio
from calledmidway.runs import Run, crossing, highest
from tests.model import (
    GAP, SCENES, Model, example_book, plain, plain_place, plain_value, plain_weights, random_calls, random_form,
    random_generator, random_model, ratio,
)
from tests.values import NO_FORMS, NO_LISTS, NO_NUMBERS, NO_TIMES, Other, no_names_of, told

BIG = 123456789012345678901234567890
# The scene zoom rests; calm is the first one and rests, too.
THREE = Model(
    ["d", "l"],
    {"calm": {"d": (0, 3), "l": (12, 1)}, "zoom": {"d": (60, 4), "l": (0, 6)}, "flip": {"d": (-6, 2), "l": (6, 2)}},
    [("calm", "zoom"), ("calm", "flip"), ("zoom", "zoom"), ("zoom", "calm"), ("flip", "flip"), ("flip", "zoom"),
     ("calm", "calm")],
    "calm", ["calm", "zoom"],
)


def all_told(run):
    """Everything that a run tells, by itself and at some moments."""
    moments = [run.lasts * Ratio(part, 7) for part in range(8)]
    # A copy, which stays when what the run has returned is changed.
    return copy.deepcopy([
        run.book, run.calls(), len(run), run.lasts, run.end(), run.counting(), run.begun(), repr(run),
        [(run.at(moment), run.scene_at(moment), run.cut(moment).calls()) for moment in moments],
        run.paces(Form.of(*run.book.things())),
    ])


def runs(number, many, most=6):
    """Some tuples of a model, calls that are allowed in it, and their run."""
    rng = random_generator(number)
    for _ in range(many):
        model = random_model(rng)
        calls = random_calls(rng, model, rng.randint(0, most))
        yield model, calls, Run(model.book(), calls)


def some_moments(model, calls):
    """The moments of all calls, those between them, and the last one."""
    rows, _, last = model.walk(calls)
    moments = [moment for _, _, _, moment in rows] + [Fraction(0), last]
    moments += [one + (other - one) * Fraction(1, 3) for one, other in zip(moments, moments[1:])]
    return sorted(set(moments))


class MadeTest(unittest.TestCase):
    def test_no_calls(self):
        for run in (Run(example_book()), Run(example_book(), []), Run(book=example_book(), calls=())):
            self.assertEqual((run.calls(), len(run), run.lasts, run.counting(), run.begun()), ([], 0, Ratio(0), 0, []))
            self.assertEqual(run.at(0), {"d": Ratio(0), "l": Ratio(0)})
            self.assertEqual((run.end(), run.scene_at(0), run.paces(GAP)), (run.at(0), "shut", []))
            self.assertEqual(run.cut(0), run)
            self.assertEqual(told(lambda: run.at(1), InvalidTime).value, 1)
            self.assertEqual(highest(run, GAP + 3), (Ratio(3), Ratio(0)))
            self.assertEqual((crossing(run, GAP, 0), crossing(run, GAP, Ratio(1, 9))), (Ratio(0), None))

    def test_what_it_tells(self):
        run = Run(example_book(), [("open", 2), ("shut", Ratio(1, 2)), ("open", 0)])
        self.assertEqual(run.calls(), [("open", Ratio(2)), ("shut", Ratio(1, 2)), ("open", Ratio(0))])
        for scene, wait in run.calls():
            self.assertIs(wait.__class__, Ratio)
        self.assertEqual((len(run), run.lasts, run.counting()), (3, Ratio(5, 2), 2))
        self.assertEqual(run.begun(), [{"d": Ratio(0), "l": Ratio(0)}, {"d": Ratio(100), "l": Ratio(50)},
                                       {"d": Ratio(175, 2), "l": Ratio(75, 2)}])
        self.assertEqual(run.end(), {"d": Ratio(175, 2), "l": Ratio(75, 2)})
        self.assertEqual([run.scene_at(0), run.scene_at(1), run.scene_at(2), run.scene_at(run.lasts)],
                         ["open", "open", "shut", "open"])
        self.assertEqual(run.book, example_book())

    def test_kinds_of_what_is_returned(self):
        for model, calls, run in runs(41, 60):
            self.assertIs(run.calls().__class__, list)
            self.assertIs(run.begun().__class__, list)
            self.assertIs(run.lasts.__class__, Ratio)
            self.assertIs(run.counting().__class__, int)
            for call in run.calls():
                self.assertEqual([part.__class__ for part in call], [str, Ratio])
                self.assertIs(call.__class__, tuple)
            for place in run.begun() + [run.end(), run.at(0), run.at(run.lasts)]:
                self.assertIs(place.__class__, dict)
                self.assertEqual(list(place), model.things)
                self.assertEqual({number.__class__ for number in place.values()}, {Ratio})

    def test_calls_as_lists_and_tuples(self):
        calls = [("open", 2), ("shut", Ratio(1, 3))]
        self.assertEqual(all_told(Run(example_book(), calls)), all_told(Run(example_book(), tuple(calls))))

    def test_what_was_passed_or_returned_may_be_changed(self):
        calls = [("open", 2), ("shut", 1)]
        run = Run(example_book(), calls)
        expected = all_told(run)
        calls.append(("shut", 1))
        calls[0] = ("open", 9)
        for value in (run.calls(), run.begun(), run.paces(GAP), run.paces(GAP)[0]):
            value.append(1)
            value.pop(0)
        for place in [run.at(0), run.at(1), run.end(), run.begun()[0], run.begun()[1]]:
            place["d"] = Ratio(99)
            place.pop("l")
        self.assertEqual(all_told(run), expected)
        self.assertEqual(all_told(run), expected)
        self.assertEqual(calls, [("open", 9), ("shut", 1), ("shut", 1)])
        self.assertEqual(len({id(place) for place in [run.at(0), run.at(0), run.end(), run.begun()[0]]}), 4)

    def test_properties_cannot_be_assigned(self):
        run = Run(example_book())
        for name in ("book", "lasts"):
            with self.assertRaises(AttributeError):
                setattr(run, name, 1)

    def test_the_methods_stand_in_the_class(self):
        for name in ("book", "calls", "__len__", "lasts", "at", "scene_at", "end", "counting", "begun", "paces",
                     "__add__", "cut", "__eq__", "__repr__"):
            self.assertIn(name, vars(Run))
        self.assertEqual({value.__module__ for value in (Run, crossing, highest)}, {"calledmidway.runs"})

    def test_numbers_of_thirty_figures(self):
        scenes = {"open": {"d": (BIG, BIG + 1)}, "shut": {"d": (-BIG, BIG)}}
        model = Model(["d"], scenes, [("open", "shut"), ("shut", "open")], "shut")
        calls = [("open", Ratio(BIG, 2)), ("shut", Ratio(1, BIG)), ("open", BIG - 1)]
        run = Run(model.book(), calls)
        rows, place, last = model.walk(calls)
        self.assertEqual((plain_place(run.end()), plain(run.lasts)), (place, last))
        self.assertEqual([plain_place(place) for place in run.begun()], [place for _, _, place, _ in rows])

    def test_sixty_calls(self):
        calls = [("open", Ratio(1, 3)), ("shut", Ratio(2, 7))] * 30
        model = Model(["d", "l"], SCENES, example_book().arrows(), "shut")
        run = Run(model.book(), calls)
        self.assertEqual(plain_place(run.end()), model.walk(calls)[1])
        self.assertEqual((len(run), run.counting()), (60, 60))


class AllowedTest(unittest.TestCase):
    def assert_refused(self, model, calls, position, cause):
        error = told(lambda: Run(model.book(), calls), NotAllowed)
        self.assertEqual(error.position, position)
        why = error.__cause__
        self.assertEqual((why.__class__.__name__, *vars(why).values()), cause)

    def test_an_arrow_that_lacks(self):
        model = Model(["d", "l"], SCENES, example_book().arrows(), "shut")
        for calls, position, cause in [
            ([("shut", 1)], 0, ("NoArrow", "shut", "shut")),
            ([("open", 1), ("open", 1)], 1, ("NoArrow", "open", "open")),
            ([("open", 0), ("shut", 1), ("open", 9), ("open", 1), ("open", 1)], 3, ("NoArrow", "open", "open")),
        ]:
            self.assert_refused(model, calls, position, cause)
            error = told(lambda: Run(model.book(), calls), NotAllowed)
            self.assertIs(error.__cause__.__class__, NoArrow)

    def test_a_resting_scene_left_too_early(self):
        for wait in (0, 1, Ratio(11, 2), Ratio(6 * BIG - 1, BIG)):
            self.assert_refused(THREE, [("zoom", wait), ("zoom", 6), ("flip", 0)], 1, ("TooEarly", "zoom"))
            self.assert_refused(THREE, [("zoom", 6), ("zoom", wait), ("calm", 0)], 2, ("TooEarly", "zoom"))
            error = told(lambda: Run(THREE.book(), [("zoom", wait), ("calm", 0)]), NotAllowed)
            self.assertIs(error.__cause__.__class__, TooEarly)
        for wait in (6, Ratio(6), 7, Ratio(25, 4), BIG):
            self.assertEqual(len(Run(THREE.book(), [("zoom", wait), ("calm", 0)])), 2)
        self.assert_refused(THREE, [("calm", 2), ("zoom", 0)], 1, ("TooEarly", "calm"))
        self.assertEqual(len(Run(THREE.book(), [("calm", 3), ("zoom", 0)])), 2)

    def test_no_arrow_is_told_ahead_of_too_early(self):
        self.assert_refused(THREE, [("zoom", 1), ("flip", 0)], 1, ("NoArrow", "zoom", "flip"))

    def test_the_first_of_several_calls_that_are_not_allowed(self):
        self.assert_refused(THREE, [("flip", 0), ("calm", 0), ("flip", 0)], 1, ("NoArrow", "flip", "calm"))
        self.assert_refused(THREE, [("zoom", 6), ("calm", 0), ("zoom", 0), ("flip", 1)], 2, ("TooEarly", "calm"))

    def test_the_first_scene_is_left_at_once(self):
        run = Run(THREE.book(), [("flip", 1)])
        self.assertEqual(run.at(0), {"d": Ratio(0), "l": Ratio(12)})
        self.assertEqual(run.end(), {"d": Ratio(-3), "l": Ratio(9)})
        self.assertEqual(len(Run(THREE.book(), [("calm", 0)])), 1)

    def test_the_last_wait_is_of_any_length(self):
        for wait in (0, 1, Ratio(1, BIG), 5, 6, 100, BIG):
            for scene in ("zoom", "flip", "calm"):
                self.assertEqual(Run(THREE.book(), [(scene, wait)]).lasts, Ratio(0) + wait)

    def test_a_scene_called_on_itself_and_waits_of_0(self):
        run = Run(THREE.book(), [("flip", 0), ("flip", 1), ("flip", 0), ("flip", 1), ("zoom", 0)])
        self.assertEqual(run.end(), {"d": Ratio(-9, 2), "l": Ratio(15, 2)})
        self.assertEqual([run.scene_at(moment) for moment in range(3)], ["flip", "flip", "zoom"])
        self.assertEqual(run.counting(), 2)
        self.assertEqual(len(run.begun()), 5)

    def test_random_calls(self):
        rng = random_generator(42)
        refused = 0
        for _ in range(600):
            model = random_model(rng)
            calls = random_calls(rng, model, 5)
            if calls and rng.random() < 0.8:
                at = rng.randrange(len(calls))
                calls[at] = (rng.choice(list(model.scenes)), rng.choice([0, 1, Ratio(1, 2), 6, 20]))
            why = model.why_not(calls)
            if why is None:
                self.assertEqual(len(Run(model.book(), calls)), len(calls))
            else:
                refused += 1
                self.assert_refused(model, calls, *why)
        self.assertGreater(refused, 100)


NO_CALLS = NO_LISTS + [
    [], (), ("open",), ["open", 1], ("open", 1, 1), ("x", 1), ("", 1), (None, 1), (["open"], 1), (("open", "shut"), 1),
    ("OPEN", 1), ("d", 1), ("open", None), ("open", "1"), ("open", -1), ("open", Ratio(-1, 2)), ("open", True),
    ("open", False), ("open", []), (1, "open"), ({}, 1), ("open", ("open", 1)),
]


class RefusedTest(unittest.TestCase):
    def test_books(self):
        for value in NO_LISTS + [Book, SCENES]:
            self.assertIs(told(lambda: Run(value, []), InvalidBook).value, value)
            self.assertIs(told(lambda: Run(value, None), InvalidBook).value, value)

    def test_calls_that_are_no_list(self):
        for value in NO_LISTS + [Run(example_book(), [("open", 1)])]:
            self.assertIs(told(lambda: Run(example_book(), value), InvalidCalls).position, None)
            self.assertIs(told(lambda: Run(example_book(), [("open", 1)]) + value, InvalidCalls).position, None)

    def test_elements_that_are_none(self):
        run = Run(example_book(), [("open", 1), ("shut", 1)])
        for value in NO_CALLS:
            for calls, position in (
                ([value], 0), ((("open", 1), value), 1), ([("open", 0), ("shut", 1), value, None], 2),
            ):
                self.assertEqual(told(lambda: Run(example_book(), calls), InvalidCalls).position, position)
                self.assertEqual(told(lambda: run + calls, InvalidCalls).position, position + 2)

    def test_wrong_elements_are_told_ahead_of_calls_that_are_not_allowed(self):
        calls = [("shut", 1), ("open", 1), ("open", 1), ("shut", -1)]
        self.assertEqual(told(lambda: Run(example_book(), calls), InvalidCalls).position, 3)
        self.assertEqual(told(lambda: Run(example_book()) + calls, InvalidCalls).position, 3)
        self.assertEqual(told(lambda: Run(example_book()) + calls[:3], NotAllowed).position, 0)

    def test_moments(self):
        run = Run(example_book(), [("open", 2), ("shut", Ratio(1, 2))])
        for value in NO_TIMES + [3, Ratio(5 * BIG + 1, 2 * BIG), BIG]:
            for action in (lambda: run.at(value), lambda: run.scene_at(value), lambda: run.cut(value),
                           lambda: run.at(moment=value)):
                self.assertIs(told(action, InvalidTime).value, value)
        self.assertEqual(run.at(Ratio(5, 2)), run.end())

    def test_forms(self):
        run = Run(example_book(), [("open", 2)])
        for value in NO_FORMS:
            self.assertIs(told(lambda: run.paces(value), InvalidForm).value, value)
            self.assertIs(told(lambda: crossing(run, value, None), InvalidForm).value, value)
            self.assertIs(told(lambda: highest(run, value), InvalidForm).value, value)
        for form, thing in ((Form.of("x", "d", "v"), "v"), (Form({"open": 1, "l": 2}), "open"), (Form.of("a"), "a")):
            self.assertEqual(told(lambda: run.paces(form), UnknownThing).value, thing)
            self.assertEqual(told(lambda: crossing(run, form, None), UnknownThing).value, thing)
            self.assertEqual(told(lambda: highest(run, form), UnknownThing).value, thing)

    def test_runs_and_bounds(self):
        run = Run(example_book(), [("open", 2)])
        for value in NO_LISTS + [[], example_book(), Run]:
            self.assertIs(told(lambda: crossing(value, None, None), InvalidRun).value, value)
            self.assertIs(told(lambda: highest(value, None), InvalidRun).value, value)
        for value in NO_NUMBERS:
            self.assertIs(told(lambda: crossing(run, GAP, value), InvalidNumber).value, value)
            self.assertIs(told(lambda: crossing(bound=value, form=GAP, run=Run(example_book())), InvalidNumber).value,
                          value)


class SeenTest(unittest.TestCase):
    def test_places_and_scenes_at_all_moments(self):
        for model, calls, run in runs(43, 250):
            rows, place, last = model.walk(calls)
            self.assertEqual((plain(run.lasts), plain_place(run.end())), (last, place))
            self.assertEqual([plain_place(place) for place in run.begun()], [place for _, _, place, _ in rows])
            self.assertEqual(run.counting(), model.counting(calls))
            for moment in some_moments(model, calls):
                scene, place = model.seen(calls, moment)
                self.assertEqual((run.scene_at(ratio(moment)), plain_place(run.at(ratio(moment)))), (scene, place))
                if moment.denominator == 1:
                    self.assertEqual(run.at(int(moment)), run.at(ratio(moment)))
                    self.assertEqual(run.scene_at(moment=int(moment)), scene)

    def test_the_place_at_the_beginning_is_that_of_the_goals(self):
        for model, calls, run in runs(44, 60):
            self.assertEqual(plain_place(run.at(0)), model.goals(model.first))
            self.assertEqual(run.at(0), run.book.goals(run.book.first))
            if calls:
                self.assertEqual(run.begun()[0], run.at(0))

    def test_counting(self):
        calls = [("flip", 1), ("flip", 0), ("zoom", 6), ("calm", 3), ("flip", Ratio(1, 9)), ("zoom", 1)]
        run = Run(THREE.book(), calls)
        self.assertEqual(run.counting(), 2)
        self.assertEqual(Run(THREE.book(), [("zoom", 3)]).counting(), 0)

    def test_a_thing_stays_where_it_has_come_to(self):
        run = Run(example_book(), [("open", 10)])
        for moment, d, l in ((0, 0, 0), (1, 50, 25), (2, 100, 50), (3, 100, 75), (4, 100, 100), (5, 100, 100),
                             (10, 100, 100)):
            self.assertEqual(run.at(moment), {"d": Ratio(d), "l": Ratio(l)})


class PacesTest(unittest.TestCase):
    def test_against_the_model(self):
        for model, calls, run in runs(45, 250):
            form = random_form(random_generator(len(calls)), model.things)
            rows, _, _ = model.walk(calls)
            found = run.paces(form)
            self.assertEqual(len(found), len(calls))
            for (scene, wait, place, _), paces in zip(rows, found):
                lengths = sorted({model.scenes[scene][thing][1] for thing in plain_weights(form)})
                sinces = [0] + [length for length in lengths if length < wait]
                self.assertIs(paces.__class__, list)
                self.assertEqual({pace.__class__ for pace in paces}, {Ratio})
                self.assertEqual([plain(pace) for pace in paces],
                                 [model.pace(scene, since, place, form) for since in sinces])

    def test_lengths_that_are_equal_or_differ(self):
        scenes = {"a": {"d": (12, 2), "l": (12, 2), "v": (12, 3)}}
        book = Book(["d", "l", "v"], scenes, [("a", "a")], "a").moved("d", 1, 0)
        wide = Book(["d", "l", "v"], {**scenes, "b": {"d": (0, 1), "l": (6, 1), "v": (0, 1)}}, [("b", "a")], "b")
        self.assertEqual(Run(book, [("a", 9)]).paces(Form.of("d", "l", "v")), [[Ratio(0)] * 3])
        form = Form({"d": 1, "l": 2, "v": Ratio(1, 2)}, 7)
        for wait, expected in ((0, [14]), (1, [14]), (2, [14]), (Ratio(5, 2), [14, 2]), (3, [14, 2]), (4, [14, 2, 0]),
                               (100, [14, 2, 0])):
            self.assertEqual(Run(wide, [("a", wait)]).paces(form), [[Ratio(pace) for pace in expected]])
        self.assertEqual(Run(wide, [("a", 4)]).paces(form=Form.of("l")), [[Ratio(3), Ratio(0)]])

    def test_forms_without_things(self):
        run = Run(example_book(), [("open", 9), ("shut", 0)])
        self.assertEqual(run.paces(Form(None, 5)), [[Ratio(0)], [Ratio(0)]])


class ChangedTest(unittest.TestCase):
    def test_further_calls(self):
        for model, calls, run in runs(46, 120):
            before = all_told(run)
            for at in range(len(calls) + 1):
                if model.why_not(calls[:at]) is None:
                    part = Run(model.book(), calls[:at])
                    self.assertEqual(all_told(part + calls[at:]), before)
                    self.assertEqual(all_told(part + tuple(calls[at:])), before)
                    self.assertEqual(part.calls(), run.calls()[:at])
            self.assertEqual(all_told(run), before)

    def test_positions_are_counted_from_the_first_call_of_the_run(self):
        run = Run(THREE.book(), [("flip", 1), ("zoom", 2)])
        for calls, position, cause in [
            ([("zoom", 1)], 2, TooEarly), ([("flip", 1)], 2, NoArrow),
        ]:
            error = told(lambda: run + calls, NotAllowed)
            self.assertEqual((error.position, error.__cause__.__class__), (position, cause))
        run = Run(THREE.book(), [("flip", 1), ("zoom", 6)])
        self.assertEqual(told(lambda: run + [("calm", 3), ("zoom", 6), ("flip", 1)], NotAllowed).position, 4)
        self.assertEqual(len(run), 2)
        self.assertEqual(run + [], run)

    def test_a_run_goes_on_in_place_as_a_new_one(self):
        kept = run = Run(example_book(), [("open", 1)])
        run += [("shut", 2)]
        self.assertEqual((len(kept), len(run)), (1, 2))

    def test_cut(self):
        for model, calls, run in runs(47, 200):
            before = all_told(run)
            rows, _, last = model.walk(calls)
            for moment in some_moments(model, calls):
                found = run.cut(ratio(moment))
                expected = [(scene, min(wait, moment - start)) for scene, wait, _, start in rows if start <= moment]
                self.assertIs(found.__class__, Run)
                self.assertEqual([(scene, plain(wait)) for scene, wait in found.calls()], expected)
                self.assertEqual((plain(found.lasts), found.end()), (moment, run.at(ratio(moment))))
                self.assertEqual(found.book, run.book)
            self.assertEqual(run.cut(run.lasts), run)
            self.assertEqual(all_told(run), before)

    def test_cut_at_calls(self):
        run = Run(THREE.book(), [("flip", 0), ("flip", 2), ("flip", 0), ("zoom", 3)])
        for moment, expected in [
            (0, [("flip", 0), ("flip", 0)]), (1, [("flip", 0), ("flip", 1)]),
            (2, [("flip", 0), ("flip", 2), ("flip", 0), ("zoom", 0)]),
            (Ratio(7, 2), [("flip", 0), ("flip", 2), ("flip", 0), ("zoom", Ratio(3, 2))]), (5, run.calls()),
        ]:
            self.assertEqual(run.cut(moment), Run(THREE.book(), expected))
            self.assertEqual(run.cut(moment=moment).calls(), Run(THREE.book(), expected).calls())

    def test_a_last_wait_beyond_the_longest_length(self):
        run = Run(THREE.book(), [("zoom", 50)])
        self.assertEqual(run.cut(20).calls(), [("zoom", Ratio(20))])
        self.assertEqual(run.at(20), run.end())


class EqualTest(unittest.TestCase):
    def test_equal(self):
        one = Run(example_book(), [("open", 2), ("shut", 1)])
        self.assertIs(one == Run(example_book(), (("open", Ratio(4, 2)), ("shut", Ratio(1)))), True)
        self.assertIs(one != Run(example_book(), [("open", 2), ("shut", 1)]), False)
        self.assertEqual(repr(one), repr(Run(example_book(), (("open", Ratio(4, 2)), ("shut", Ratio(1))))))
        for other in (Run(example_book(), [("open", 2)]), Run(example_book(), [("open", 2), ("shut", 2)]),
                      Run(example_book(), [("open", 1), ("shut", 1)]), Run(example_book(), []),
                      Run(example_book(["shut"]), [("open", 2), ("shut", 1)]),
                      Run(example_book(), [("open", 2), ("shut", 1), ("open", 0)])):
            self.assertIs(one == other, False)
            self.assertIs(one != other, True)
        for value in NO_LISTS + [one.calls(), (one.book, one.calls()), one.book, repr(one)]:
            self.assertIs(one == value, False)
            self.assertIs(value == one, False)
            self.assertIs(one != value, True)
        other = Model(["d", "l"], SCENES, [("shut", "open"), ("shut", "shut")], "shut").book()
        self.assertIs(Run(other, [("open", 1)]) == Run(example_book(), [("open", 1)]), False)

    def test_repr(self):
        run = Run(example_book(), [("open", 2), ("shut", Ratio(1, 2))])
        self.assertEqual(repr(run),
                         "Run(" + repr(example_book()) + ", [('open', Ratio(2, 1)), ('shut', Ratio(1, 2))])")
        self.assertEqual(repr(Run(example_book())), "Run(" + repr(example_book()) + ", [])")
        self.assertEqual(eval(repr(run), {"Run": Run, "Book": Book, "Ratio": Ratio}), run)


def pieces(model, calls, form):
    """The tuples (moment, value) at the bends of all calls, those at their ends among them."""
    rows, _, _ = model.walk(calls)
    found = [(Fraction(0), plain_value(form, model.goals(model.first)))]
    for scene, wait, place, start in rows:
        for time in [0] + [length for length in model.lengths(scene) if length < wait] + [wait]:
            found.append((start + time, plain_value(form, model.behind(scene, time, place))))
    return found


class CrossingTest(unittest.TestCase):
    def test_where_the_bound_is_met(self):
        run = Run(example_book(), [("open", 3), ("shut", 1), ("open", Ratio(1, 2))])
        self.assertEqual([crossing(run, GAP, bound) for bound in (-5, 0, 25, 49, 50)],
                         [Ratio(0), Ratio(0), Ratio(1), Ratio(49, 25), Ratio(2)])
        self.assertEqual(crossing(run, GAP, Ratio(50 * BIG + 1, BIG)), None)
        self.assertEqual(crossing(run, -GAP, 0), Ratio(0))
        self.assertEqual(crossing(run, -GAP, 1), None)
        self.assertEqual(crossing(Run(example_book(), [("open", 3)]), Form.of("d", "l"), 175), Ratio(3))
        self.assertEqual(crossing(Run(example_book(), [("open", 9)]), Form.of("d"), 100), Ratio(2))
        self.assertEqual(crossing(form=Form.of("l"), bound=Ratio(1, 2), run=run), Ratio(1, 50))

    def test_of_several_moments_the_first(self):
        run = Run(example_book(), [("open", 9), ("shut", 9), ("open", 9), ("shut", 9)])
        self.assertEqual([crossing(run, GAP, 50), crossing(run, Form.of("d"), 100), crossing(run, -Form.of("d"), 0)],
                         [Ratio(2), Ratio(2), Ratio(0)])
        self.assertEqual(highest(run, GAP), (Ratio(50), Ratio(2)))
        self.assertEqual(highest(run, Form.of("d", "l") + 1), (Ratio(201), Ratio(4)))
        self.assertEqual(highest(run, -GAP), (Ratio(0), Ratio(0)))

    def test_highest(self):
        run = Run(example_book(), [("open", 1), ("shut", 1)])
        self.assertEqual(highest(run, GAP), (Ratio(25), Ratio(1)))
        self.assertEqual(highest(run, -Form.of("d")), (Ratio(0), Ratio(0)))
        self.assertEqual(highest(form=Form(None, 4), run=run), (Ratio(4), Ratio(0)))
        run = Run(example_book(), [("open", 1), ("shut", 0), ("open", Ratio(1, 2))])
        self.assertEqual(highest(run, Form.of("d") * 2), (Ratio(125), Ratio(3, 2)))
        for number in highest(run, GAP):
            self.assertIs(number.__class__, Ratio)
        self.assertIs(highest(run, GAP).__class__, tuple)

    def test_against_the_model(self):
        never = 0
        rng = random_generator(48)
        for model, calls, run in runs(49, 250):
            form = random_form(rng, model.things)
            rows = pieces(model, calls, form)
            best = max(value for _, value in rows)
            first = min(moment for moment, value in rows if value == best)
            value, moment = highest(run, form)
            self.assertEqual((plain(value), plain(moment)), (best, first))
            self.assertEqual(form(run.at(moment)), value)
            bounds = [value for _, value in rows] + [(one + other) / 2 for (_, one), (_, other) in zip(rows, rows[1:])]
            for bound in bounds + [best + 1, best + Fraction(1, 100), rows[0][1] - 1]:
                moment = crossing(run, form, ratio(bound))
                if bound > best:
                    never += 1
                    self.assertIsNone(moment)
                    continue
                self.assertIs(moment.__class__, Ratio)
                self.assert_first(rows, plain(moment), bound)
                self.assertGreaterEqual(plain(form(run.at(moment))), bound)
        self.assertGreater(never, 100)

    def assert_first(self, rows, moment, bound):
        """The value is below the bound until the moment, and just the bound there, unless it is the beginning."""
        before = [value for start, value in rows if start < moment]
        self.assertTrue(all(value < bound for value in before))
        if moment > 0:
            (start, low), (end, high) = [
                (one, other) for one, other in zip(rows, rows[1:]) if one[0] < moment <= other[0]
            ][0]
            self.assertEqual(low + (high - low) * (moment - start) / (end - start), bound)
        else:
            self.assertGreaterEqual(rows[0][1], bound)

    def test_repeated(self):
        run = Run(example_book(), [("open", 3), ("shut", 1)])
        self.assertEqual(crossing(run, GAP, 25), crossing(run, GAP, 25))
        self.assertEqual(highest(run, GAP), highest(run, GAP))


class ExampleTest(unittest.TestCase):
    def test_the_example_of_the_stage(self):
        run = Run(example_book(), [("open", 2), ("shut", 1)])
        self.assertEqual(repr([run.at(1), run.end(), crossing(run, GAP, 25), run.paces(GAP)]), (
            "[{'d': Ratio(50, 1), 'l': Ratio(25, 1)}, {'d': Ratio(75, 1), 'l': Ratio(25, 1)}, Ratio(1, 1),"
            " [[Ratio(25, 1)], [Ratio(0, 1)]]]"
        ))

    def test_scenes_that_are_none_in_calls(self):
        for value in no_names_of(["open", "shut"]) + [("shut", "open"), Other()]:
            self.assertEqual(told(lambda: Run(example_book(), [("open", 1), (value, 1)]), InvalidCalls).position, 1)
        for value in NO_TIMES:
            calls = [("open", 1), ("shut", value)]
            self.assertEqual(told(lambda: Run(example_book(), calls), InvalidCalls).position, 1)

    def test_all_short_rows_of_calls(self):
        book = THREE.book()
        for scenes in itertools.product(THREE.scenes, repeat=3):
            for waits in itertools.product((0, 3, 6), repeat=2):
                calls = list(zip(scenes, (*waits, 1)))
                why = THREE.why_not(calls)
                if why is None:
                    self.assertEqual(plain_place(Run(book, calls).end()), THREE.walk(calls)[1])
                else:
                    self.assertEqual(told(lambda: Run(book, calls), NotAllowed).position, why[0])


if __name__ == "__main__":
    unittest.main()
