import copy
import itertools
import unittest

from calledmidway.books import Book
from calledmidway.errors import (
    ArrowTaken, InvalidArrow, InvalidArrows, InvalidNumber, InvalidResting, InvalidScenes, InvalidThings, TooMany,
    UnknownArrow, UnknownScene, UnknownThing,
)
from calledmidway.forms import Form
from calledmidway.ratios import Ratio
from tests.model import SCENES, Model, example_book, random_generator, random_model
from tests.values import NO_LISTS, NO_NAMES, NO_NUMBERS, Like, Other, no_names_of, told

BIG = 123456789012345678901234567890
THINGS = ["l", "d", "v"]
WIDE = {
    "zoom": {"v": (-5, 3), "d": (BIG, 1), "l": (0, BIG)},
    "open": {"d": (100, 2), "l": (-100, 4), "v": (7, 7)},
    "idle": {"l": (1, 1), "v": (2, 2), "d": (3, 3)},
    "a": {"d": (0, 9), "v": (-BIG, 2), "l": (4, 9)},
}
ARROWS = [("zoom", "open"), ("open", "zoom"), ("open", "open"), ("a", "open"), ("zoom", "idle"), ("a", "zoom")]
NO_DICTS = [value for value in NO_LISTS if not isinstance(value, dict)] + [[], (), [("open", {})]]
NO_MOTIONS = [
    [100, 2], (100,), (100, 2, 3), (), 100, "ab", "12", None, {100: 2}, {100, 2}, (100, 0), (100, -1), (True, 2),
    (100, True), (False, 1), (Ratio(100), 2), (100, Ratio(2)), (None, 2), (100, None), ("100", 2), (100, "2"),
    ((100, 2),), Other(), Form(),
]


def wide_book(resting=("zoom", "idle")):
    return Book(THINGS, WIDE, ARROWS, "zoom", resting)


def all_told(book):
    """Everything that a book tells."""
    scenes, things = book.scenes(), book.things()
    # A copy, which stays when what the book has returned is changed.
    return copy.deepcopy([
        things, scenes, book.arrows(), book.first, book.resting, len(book), repr(book), book.reached(),
        [[book.goal(scene, thing) for thing in things] for scene in scenes],
        [[book.length(scene, thing) for thing in things] for scene in scenes],
        [list(book.goals(scene).items()) for scene in scenes], [book.longest(scene) for scene in scenes],
        [book.callers(scene) for scene in scenes],
        [pair for pair in itertools.product(scenes, scenes) if pair in book],
        [scene for scene in scenes if scene in book],
    ])


class MadeTest(unittest.TestCase):
    def test_what_it_tells(self):
        book = wide_book()
        self.assertEqual(book.things(), ["d", "l", "v"])
        self.assertEqual(book.scenes(), ["a", "idle", "open", "zoom"])
        self.assertEqual(book.arrows(), [("a", "open"), ("a", "zoom"), ("open", "open"), ("open", "zoom"),
                                         ("zoom", "idle"), ("zoom", "open")])
        self.assertEqual((book.first, book.resting, len(book)), ("zoom", ["idle", "zoom"], 4))
        self.assertEqual(book.reached(), ["idle", "open", "zoom"])
        self.assertEqual([book.callers(scene) for scene in book.scenes()],
                         [[], ["zoom"], ["open", "zoom"], ["open"]])
        self.assertEqual([book.longest(scene) for scene in book.scenes()], [9, 3, 7, BIG])
        self.assertEqual(list(book.goals("zoom").items()), [("d", Ratio(BIG)), ("l", Ratio(0)), ("v", Ratio(-5))])
        for scene, thing in itertools.product(WIDE, THINGS):
            self.assertEqual((book.goal(scene, thing), book.length(scene, thing)), WIDE[scene][thing])
            self.assertIs(book.goal(scene, thing).__class__, int)
            self.assertIs(book.length(scene, thing).__class__, int)

    def test_kinds_of_what_is_returned(self):
        book = wide_book()
        for value in (book.things(), book.scenes(), book.arrows(), book.resting, book.reached(), book.callers("open")):
            self.assertIs(value.__class__, list)
        for arrow in book.arrows():
            self.assertIs(arrow.__class__, tuple)
        self.assertIs(book.goals("open").__class__, dict)
        for number in book.goals("open").values():
            self.assertIs(number.__class__, Ratio)
        self.assertIs(book.longest("open").__class__, int)

    def test_parts_in_any_sequence(self):
        expected = all_told(wide_book())
        for things in itertools.permutations(THINGS):
            for names in itertools.permutations(WIDE):
                scenes = {name: {thing: WIDE[name][thing] for thing in things} for name in names}
                arrows = [arrow for name in names for arrow in ARROWS if arrow[0] == name]
                self.assertEqual(all_told(Book(things, scenes, arrows, "zoom", ("idle", "zoom"))), expected)
                self.assertEqual(all_told(Book(list(things), scenes, tuple(arrows), "zoom", ["zoom", "idle"])),
                                 expected)

    def test_by_name(self):
        book = Book(resting=["zoom", "idle"], first="zoom", arrows=ARROWS, scenes=WIDE, things=THINGS)
        self.assertEqual(all_told(book), all_told(wide_book()))
        self.assertEqual(book.goal(thing="v", scene="open"), 7)
        self.assertEqual(book.length(thing="l", scene="open"), 4)
        self.assertEqual(book.goals(scene="idle"), {"d": Ratio(3), "l": Ratio(1), "v": Ratio(2)})
        self.assertEqual((book.longest(scene="open"), book.callers(scene="open")), (7, ["open", "zoom"]))
        self.assertEqual(book.moved(more=3, times=2, thing="v").goal("open", "v"), 17)

    def test_resting_need_not_be_told(self):
        book = Book(THINGS, WIDE, ARROWS, "zoom")
        self.assertEqual(book.resting, [])
        self.assertEqual(book, wide_book([]))
        self.assertEqual(book, wide_book(()))

    def test_what_was_passed_may_be_changed(self):
        things, arrows, resting = list(THINGS), list(ARROWS), ["zoom"]
        scenes = {name: dict(WIDE[name]) for name in WIDE}
        book = Book(things, scenes, arrows, "zoom", resting)
        expected = all_told(book)
        self.assertEqual((things, arrows, resting), (THINGS, ARROWS, ["zoom"]))
        self.assertEqual([list(scenes[name].items()) for name in scenes], [list(WIDE[name].items()) for name in WIDE])
        things.append("z")
        arrows.pop()
        resting.append("open")
        scenes["open"]["d"] = (1, 1)
        del scenes["zoom"]["v"]
        del scenes["idle"]
        self.assertEqual(all_told(book), expected)

    def test_what_is_returned_may_be_changed(self):
        book = wide_book()
        expected = all_told(book)
        for value in (book.things(), book.scenes(), book.arrows(), book.resting, book.reached(), book.callers("open")):
            value.append("x")
            value.pop(0)
            value.reverse()
        book.goals("open")["d"] = Ratio(0)
        book.goals("open").clear()
        self.assertEqual(all_told(book), expected)
        self.assertIsNot(book.goals("open"), book.goals("open"))
        self.assertIsNot(book.resting, book.resting)

    def test_properties_cannot_be_assigned(self):
        book = wide_book()
        for name in ("first", "resting"):
            with self.assertRaises(AttributeError):
                setattr(book, name, "open")
        self.assertEqual(all_told(book), all_told(wide_book()))

    def test_numbers_of_thirty_figures(self):
        scenes = {"open": {"d": (BIG, BIG + 1), "l": (-BIG, BIG)}}
        book = Book(["d", "l"], scenes, [], "open")
        self.assertEqual([book.goal("open", "d"), book.length("open", "d"), book.goal("open", "l")],
                         [BIG, BIG + 1, -BIG])
        self.assertEqual(book.longest("open"), BIG + 1)
        self.assertEqual((book * BIG).length("open", "l"), BIG * BIG)
        self.assertEqual(book.moved("d", BIG, -BIG).goal("open", "d"), BIG * BIG - BIG)

    def test_no_arrows_a_ring_all_arrows_and_itself(self):
        names = ["a", "b", "c", "e"]
        scenes = {name: {"d": (at, 1)} for at, name in enumerate(names)}
        alone = Book(["d"], scenes, [], "c")
        self.assertEqual((alone.reached(), alone.callers("c"), alone.callers("a")), (["c"], [], []))
        ring = Book(["d"], scenes, [("a", "b"), ("b", "c"), ("c", "e"), ("e", "a")], "c")
        self.assertEqual(ring.reached(), names)
        self.assertEqual([ring.callers(name) for name in names], [["e"], ["a"], ["b"], ["c"]])
        full = Book(["d"], scenes, list(itertools.product(names, names)), "e")
        self.assertEqual([full.callers(name) for name in full.reached()], [names] * 4)
        self_alone = Book(["d"], scenes, [("c", "c"), ("a", "c"), ("b", "a")], "c")
        self.assertEqual((self_alone.reached(), self_alone.callers("c"), self_alone.callers("a")), (["c"], ["c"], []))

    def test_a_long_way_against_the_sequence_of_names(self):
        names = ["f", "e", "d", "c", "b", "a"]
        scenes = {name: {"x": (0, 1)} for name in names}
        book = Book(["x"], scenes, list(zip(names, names[1:])), "f")
        self.assertEqual(book.reached(), sorted(names))
        self.assertEqual(book.callers("a"), ["b"])
        book = Book(["x"], scenes, list(zip(names[1:], names)), "a")
        self.assertEqual(book.reached(), sorted(names))

    def test_a_thing_and_a_scene_of_the_same_name(self):
        book = Book(["d", "open"], {"d": {"d": (1, 2), "open": (3, 4)}}, [("d", "d")], "d", ["d"])
        self.assertEqual([book.goal("d", "open"), book.length("d", "d")], [3, 2])
        self.assertEqual(["d" in book, "open" in book, ("d", "open") in book], [True, False, False])
        self.assertEqual(told(lambda: book.goal("open", "d"), UnknownScene).value, "open")

    def test_class_values(self):
        for owner in (Book, example_book()):
            self.assertEqual((owner.MOST_THINGS, owner.MOST_SCENES, owner.MOST_MOTIONS), (4, 6, 15))

    def test_the_methods_stand_in_the_class(self):
        for name in ("things", "scenes", "arrows", "first", "resting", "goal", "length", "goals", "longest", "reached",
                     "callers", "__len__", "__contains__", "__add__", "__sub__", "__mul__", "__rmul__", "moved",
                     "__eq__", "__repr__", "MOST_THINGS", "MOST_SCENES", "MOST_MOTIONS"):
            self.assertIn(name, vars(Book))
        self.assertEqual(Book.__module__, "calledmidway.books")

    def test_random_books_reach_what_the_model_reaches(self):
        rng = random_generator(21)
        for _ in range(300):
            model = random_model(rng)
            book = model.book()
            self.assertEqual(book.reached(), model.reached())
            for scene in model.scenes:
                self.assertEqual(book.callers(scene), model.callers(scene))
                self.assertEqual(book.longest(scene), model.longest(scene))


class InTest(unittest.TestCase):
    def test_scenes_and_arrows(self):
        book = wide_book()
        for scene in WIDE:
            self.assertIs(scene in book, True)
        for pair in itertools.product(WIDE, WIDE):
            self.assertIs(pair in book, pair in ARROWS)

    def test_any_other_value(self):
        book = wide_book()
        for value in no_names_of(sorted(WIDE)) + [
            ["open", "zoom"], ("open",), ("open", "zoom", "open"), ("open", "x"), ("x", "open"), (("open", "zoom"),),
            ("open", ["zoom"]), ("open", {}), ({}, []), ("open", None), "d", ("d", "l"), ("open", "d"), book, Book,
        ]:
            self.assertIs(value in book, False)
        for value in (Like(), ("open", Like()), (Like(), Like())):
            self.assertIs(value in book, False)
            self.assertIs(told(lambda: book - value, UnknownArrow).value, value)
            self.assertIs(told(lambda: book + value, InvalidArrow).value, value)


RIGHT = {"things": ["d", "l"], "scenes": SCENES, "arrows": [("open", "shut"), ("shut", "open")], "first": "shut",
         "resting": ["open"]}
FIVE = ["d", "l", "v", "w", "x"]
SEVEN = ["a", "b", "c", "e", "f", "g", "h"]


def scenes_of(names, things):
    return {name: {thing: (1, 2) for thing in things} for name in names}


WRONG_SCENE = {"d": (0, 4)}
# In the sequence in which they are due: a parameter, a wrong value, the error, its attribute.
WRONG = [
    ("things", None, InvalidThings, None), ("things", [], InvalidThings, None), ("things", "dl", InvalidThings, None),
    ("things", ["d", "D"], InvalidThings, 1), ("things", ["d", "l", "d"], InvalidThings, 2),
    ("scenes", None, InvalidScenes, None), ("scenes", {}, InvalidScenes, None),
    ("scenes", {**SCENES, "A": {}}, InvalidScenes, None),
    ("scenes", {**SCENES, "open": WRONG_SCENE}, InvalidScenes, "open"),
    ("arrows", None, InvalidArrows, None), ("arrows", [("open", "shut"), ("open", "x")], InvalidArrows, 1),
    ("first", None, UnknownScene, None), ("first", ["shut"], UnknownScene, ["shut"]),
    ("resting", None, InvalidResting, None), ("resting", ["open", "open"], InvalidResting, 1),
]


def attribute(error):
    """The one attribute of an error."""
    (value,) = vars(error).values()
    return value


class RefusedTest(unittest.TestCase):
    def refused(self, error, expected, **parts):
        found = told(lambda: Book(**{**RIGHT, **parts}), error)
        self.assertEqual(attribute(found), expected)
        self.assertIs(attribute(found).__class__, expected.__class__)

    def test_the_parts_of_these_tests_are_right(self):
        self.assertEqual(Book(**RIGHT), example_book(["open"]))

    def test_things(self):
        for value in NO_LISTS + [[], ()]:
            self.refused(InvalidThings, None, things=value)
        for value in NO_NAMES:
            self.refused(InvalidThings, 0, things=[value])
            self.refused(InvalidThings, 1, things=("d", value))
            self.refused(InvalidThings, 2, things=["l", "d", value, value, "D", "d"])
        self.refused(InvalidThings, 1, things=["d", "d"])
        self.refused(InvalidThings, 2, things=("d", "l", "d", "l"))
        self.refused(InvalidThings, 3, things=["d", "l", "v", "l", 1])

    def test_scenes(self):
        for value in NO_DICTS + [{}]:
            self.refused(InvalidScenes, None, scenes=value)
        for value in NO_NAMES:
            if value.__class__.__hash__:
                self.refused(InvalidScenes, None, scenes={value: SCENES["open"]})
                self.refused(InvalidScenes, None, scenes={**SCENES, value: SCENES["open"]})
                self.refused(InvalidScenes, None, scenes={"a": None, value: SCENES["open"], **SCENES})

    def test_motions(self):
        wrong = NO_DICTS + [{}, {"d": (1, 2)}, {"l": (1, 2)}, {"d": (1, 2), "l": (1, 2), "v": (1, 2)},
                            {"d": (1, 2), "v": (1, 2)}, {"D": (1, 2), "l": (1, 2)}, {"d": (1, 2), "l": (1, 2), 1: 2}]
        wrong = wrong + [{"d": (1, 2), "l": motion} for motion in NO_MOTIONS]
        wrong = wrong + [{"d": motion, "l": (1, 2)} for motion in NO_MOTIONS]
        for value in wrong:
            self.refused(InvalidScenes, "open", scenes={**SCENES, "open": value})
            self.refused(InvalidScenes, "shut", scenes={"shut": value, "open": SCENES["open"]})
            # The least name is told, not the first one of the dict.
            self.refused(InvalidScenes, "open", scenes={"shut": value, "open": value, "zoom": None})
            self.refused(InvalidScenes, "abc", scenes={"shut": value, "abc": None, "b": SCENES["open"]})

    def test_lengths_of_one_and_more(self):
        scenes = {"open": {"d": (0, 1), "l": (-1, 1)}}
        self.assertEqual(Book(["d", "l"], scenes, [], "open").longest("open"), 1)
        self.refused(InvalidScenes, "open", scenes={"open": {"d": (0, 1), "l": (-1, 0)}})

    def test_arrows(self):
        for value in NO_LISTS:
            self.refused(InvalidArrows, None, arrows=value)
        wrong = NO_LISTS + [
            ["open", "shut"], ("open",), (), ("open", "shut", "open"), ("open", "x"), ("x", "open"), ("d", "l"),
            ("open", None), (None, "shut"), (["open"], "shut"), ("open", ["shut"]), ("open", {}), ("Open", "shut"),
        ]
        for value in wrong:
            self.refused(InvalidArrows, 0, arrows=[value])
            self.refused(InvalidArrows, 1, arrows=(("open", "open"), value))
            self.refused(InvalidArrows, 2, arrows=[("shut", "shut"), ("open", "shut"), value, value, None])
        self.refused(InvalidArrows, 1, arrows=[("open", "shut"), ("open", "shut")])
        self.refused(InvalidArrows, 2, arrows=[("open", "shut"), ("shut", "open"), ("open", "shut"), None])
        self.assertEqual(Book(**{**RIGHT, "arrows": ()}).arrows(), [])

    def test_first(self):
        for value in no_names_of(["open", "shut"]) + [("open", "shut")]:
            self.assertIs(told(lambda: Book(**{**RIGHT, "first": value}), UnknownScene).value, value)

    def test_resting(self):
        for value in NO_LISTS:
            self.refused(InvalidResting, None, resting=value)
        for value in no_names_of(["open", "shut"]) + [("open", "shut")]:
            self.refused(InvalidResting, 0, resting=[value])
            self.refused(InvalidResting, 1, resting=("shut", value))
            self.refused(InvalidResting, 1, resting=["open", value, value, "open"])
        self.refused(InvalidResting, 1, resting=["open", "open"])
        self.refused(InvalidResting, 2, resting=("shut", "open", "shut", 1))

    def assert_too_many(self, what, limit, parts):
        error = told(lambda: Book(*parts), TooMany)
        self.assertEqual((error.what, error.limit), (what, limit))

    def test_too_many(self):
        for things, names, what, limit in [
            (FIVE, ["a"], "things", 4), (FIVE, SEVEN, "things", 4), (FIVE, SEVEN[:3], "things", 4),
            (["d"], SEVEN, "scenes", 6), (FIVE[:4], SEVEN, "scenes", 6), (FIVE[:2], SEVEN, "scenes", 6),
            (FIVE[:4], SEVEN[:4], "motions", 15), (FIVE[:3], SEVEN[:6], "motions", 15),
        ]:
            self.assert_too_many(what, limit, (things, scenes_of(names, things), [], "a"))

    def test_just_as_many_as_there_can_be(self):
        for things, scenes in ((4, 3), (3, 5), (2, 6), (1, 6), (4, 1), (1, 1)):
            names = SEVEN[:scenes]
            book = Book(FIVE[:things], scenes_of(names, FIVE[:things]), list(itertools.product(names, names)), "a",
                        names)
            self.assertEqual((len(book.things()), len(book), book.resting), (things, scenes, names))
            self.assertEqual(len(book.arrows()), scenes * scenes)

    def test_of_two_wrong_parts_the_first_that_is_due_is_told(self):
        for one, other in itertools.combinations(WRONG, 2):
            if one[0] != other[0]:
                self.refused(one[2], one[3], **{one[0]: one[1], other[0]: other[1]})
                self.refused(one[2], one[3], **{other[0]: other[1], one[0]: one[1]})

    def test_too_many_is_told_behind_all_else(self):
        scenes = scenes_of(SEVEN, FIVE)
        for parts, error in [
            ((FIVE, scenes, [("a", "x")], "a"), InvalidArrows), ((FIVE, scenes, [], "x"), UnknownScene),
            ((FIVE, scenes, [], "a", ["x"]), InvalidResting), ((FIVE + ["d"], scenes, [], "a"), InvalidThings),
            ((FIVE, {**scenes, "a": {}}, [], "a"), InvalidScenes),
        ]:
            told(lambda: Book(*parts), error)

    def test_all_wrong_at_once(self):
        self.refused(InvalidThings, None, things=1, scenes=1, arrows=1, first=1, resting=1)
        self.refused(InvalidScenes, None, scenes=1, arrows=1, first=1, resting=1)
        self.refused(InvalidArrows, None, arrows=1, first=1, resting=1)
        self.refused(UnknownScene, 1, first=1, resting=1)


class AskedWronglyTest(unittest.TestCase):
    def test_scenes_that_are_none(self):
        book = example_book()
        for value in no_names_of(["open", "shut"]) + [("open", "shut"), "d"]:
            for action in (lambda: book.goal(value, "d"), lambda: book.length(value, "d"), lambda: book.goals(value),
                           lambda: book.longest(value), lambda: book.callers(value), lambda: book.goal(value, None),
                           lambda: book.length(value, None)):
                self.assertIs(told(action, UnknownScene).value, value)

    def test_things_that_are_none(self):
        book = example_book()
        for value in no_names_of(["d", "l"]) + ["open", "v"]:
            for action in (lambda: book.goal("open", value), lambda: book.length("open", value),
                           lambda: book.moved(value, 1, 2), lambda: book.moved(value, None, True)):
                self.assertIs(told(action, UnknownThing).value, value)

    def test_numbers_that_are_none(self):
        book = example_book()
        for value in NO_NUMBERS + [Ratio(1), Ratio(1, 2)]:
            self.assertIs(told(lambda: book.moved("d", value, 1), InvalidNumber).value, value)
            self.assertIs(told(lambda: book.moved("d", 1, value), InvalidNumber).value, value)
            self.assertIs(told(lambda: book.moved("d", value, None), InvalidNumber).value, value)
        self.assertEqual(all_told(book), all_told(example_book()))


class OperatorsTest(unittest.TestCase):
    def setUp(self):
        self.book = wide_book()
        self.before = all_told(self.book)

    def tearDown(self):
        self.assertEqual(all_told(self.book), self.before)

    def test_an_arrow_more(self):
        for pair in itertools.product(WIDE, WIDE):
            if pair not in ARROWS:
                found = self.book + pair
                self.assertEqual(all_told(found),
                                 all_told(Book(THINGS, WIDE, [pair] + ARROWS, "zoom", ["zoom", "idle"])))
                self.assertEqual(all_told(found - pair), self.before)

    def test_an_arrow_that_is_there(self):
        for pair in ARROWS:
            self.assertEqual(told(lambda: self.book + pair, ArrowTaken).value, pair)

    def test_an_arrow_less(self):
        for pair in ARROWS:
            found = self.book - pair
            rest = [arrow for arrow in ARROWS if arrow != pair]
            self.assertEqual(all_told(found), all_told(Book(THINGS, WIDE, rest, "zoom", ["zoom", "idle"])))
            self.assertEqual(all_told(found + pair), self.before)

    def test_refused_arrows(self):
        for value in NO_LISTS + [
            [], ["open", "idle"], ("open",), (), ("open", "idle", "open"), ("open", "x"), ("x", "open"), ("d", "l"),
            (["open"], "idle"), ("open", {}), "open", ("OPEN", "idle"), self.book,
        ]:
            self.assertIs(told(lambda: self.book + value, InvalidArrow).value, value)
            self.assertIs(told(lambda: self.book - value, UnknownArrow).value, value)
        for pair in itertools.product(WIDE, WIDE):
            if pair not in ARROWS:
                self.assertIs(told(lambda: self.book - pair, UnknownArrow).value, pair)

    def test_longer_lengths(self):
        for many in (1, 2, 7, BIG):
            scenes = {
                name: {thing: (goal, length * many) for thing, (goal, length) in WIDE[name].items()} for name in WIDE
            }
            expected = all_told(Book(THINGS, scenes, ARROWS, "zoom", ["zoom", "idle"]))
            self.assertEqual(all_told(self.book * many), expected)
            self.assertEqual(all_told(many * self.book), expected)

    def test_refused_numbers(self):
        for value in NO_NUMBERS + [0, -1, -BIG, Ratio(1), Ratio(2), Ratio(1, 2), self.book]:
            self.assertIs(told(lambda: self.book * value, InvalidNumber).value, value)
        for value in (0, -1, -BIG):
            self.assertEqual(told(lambda: value * self.book, InvalidNumber).value, value)
        for value in (True, False, None, Other(), [1], (1,)):
            self.assertRaises((TypeError, InvalidNumber), lambda: value * self.book)

    def test_moved(self):
        for thing, times, more in [("d", 1, 0), ("l", 2, 3), ("v", -1, 0), ("d", 0, 5), ("l", -3, -BIG), ("v", BIG, 1)]:
            scenes = {name: dict(WIDE[name]) for name in WIDE}
            for name in scenes:
                goal, length = scenes[name][thing]
                scenes[name][thing] = (goal * times + more, length)
            expected = all_told(Book(THINGS, scenes, ARROWS, "zoom", ["zoom", "idle"]))
            self.assertEqual(all_told(self.book.moved(thing, times, more)), expected)
        self.assertEqual(self.book.moved("d", 1, 0), self.book)

    def test_one_behind_another(self):
        found = 2 * ((self.book + ("idle", "a") - ("zoom", "open")) * 3).moved("d", 2, 1).moved("d", -1, 0)
        self.assertEqual(found.arrows(), [("a", "open"), ("a", "zoom"), ("idle", "a"), ("open", "open"),
                                          ("open", "zoom"), ("zoom", "idle")])
        self.assertEqual([found.goal("open", "d"), found.length("open", "d")], [-201, 12])
        self.assertEqual(found.reached(), ["a", "idle", "open", "zoom"])
        self.assertEqual(found.resting, ["idle", "zoom"])

    def test_in_place_signs_make_a_new_book(self):
        kept = book = self.book
        book += ("idle", "a")
        book -= ("zoom", "open")
        book *= 2
        self.assertEqual([book.longest("idle"), len(book.arrows()), ("idle", "a") in book], [6, 6, True])
        self.assertEqual(all_told(kept), self.before)

    def test_repeated(self):
        for action in (lambda: self.book + ("idle", "a"), lambda: self.book - ("a", "open"), lambda: self.book * 2,
                       lambda: 2 * self.book, lambda: self.book.moved("d", 2, 2)):
            self.assertEqual(action(), action())
            self.assertEqual(repr(action()), repr(action()))


class EqualTest(unittest.TestCase):
    def test_books_of_which_one_part_differs(self):
        other_goal = {**SCENES, "open": {"d": (101, 2), "l": (100, 4)}}
        other_length = {**SCENES, "open": {"d": (100, 3), "l": (100, 4)}}
        further_scene = {**SCENES, "zoom": SCENES["open"]}
        other_thing = {name: {"d": SCENES[name]["d"], "v": SCENES[name]["l"]} for name in SCENES}
        one_thing = {name: {"d": SCENES[name]["d"]} for name in SCENES}
        books = [Book(**RIGHT)] + [Book(**{**RIGHT, **parts}) for parts in (
            {"scenes": other_goal}, {"scenes": other_length}, {"scenes": further_scene}, {"arrows": []},
            {"arrows": [("open", "shut")]}, {"arrows": [("open", "shut"), ("shut", "shut")]}, {"first": "open"},
            {"resting": []}, {"resting": ["shut"]}, {"resting": ["open", "shut"]},
            {"things": ["d", "v"], "scenes": other_thing}, {"things": ["d"], "scenes": one_thing},
        )]
        for one, other in itertools.permutations(books, 2):
            self.assertIs(one == other, False)
            self.assertIs(one != other, True)
            self.assertNotEqual(repr(one), repr(other))
        for book in books:
            self.assertIs(book == book + ("open", "open") - ("open", "open"), True)
            self.assertIs(book != book.moved("d", 1, 0), False)

    def test_not_equal_to_values_of_another_kind(self):
        book = example_book()
        for value in NO_LISTS + [[], (), 2, SCENES, repr(book), book.things(), (book,)]:
            self.assertIs(book == value, False)
            self.assertIs(value == book, False)
            self.assertIs(book != value, True)

    def test_repr(self):
        self.assertEqual(repr(example_book(["open"])), (
            "Book(['d', 'l'], {'open': {'d': (100, 2), 'l': (100, 4)}, 'shut': {'d': (0, 4), 'l': (0, 2)}},"
            " [('open', 'shut'), ('shut', 'open')], 'shut', ['open'])"
        ))
        scenes = {"shut": {"l": (0, 2), "d": (0, 4)}, "open": {"l": (100, 4), "d": (100, 2)}}
        turned = Book(("l", "d"), scenes, (("shut", "open"), ("open", "shut")), "shut", ("open",))
        self.assertEqual(repr(turned), repr(example_book(["open"])))
        self.assertEqual(str(turned), repr(turned))
        self.assertEqual(repr(Book(["d"], {"a": {"d": (-1, 1)}}, (), "a")),
                         "Book(['d'], {'a': {'d': (-1, 1)}}, [], 'a', [])")

    def test_a_repr_read_by_python_is_an_equal_book(self):
        rng = random_generator(22)
        for _ in range(50):
            book = random_model(rng).book()
            self.assertEqual(eval(repr(book), {"Book": Book}), book)


class ExampleTest(unittest.TestCase):
    def test_the_example_of_the_stage(self):
        scenes = {"open": {"d": (100, 2), "l": (100, 4)}, "shut": {"d": (0, 4), "l": (0, 2)}}
        book = Book(["d", "l"], scenes, [("open", "shut"), ("shut", "open")], "shut")
        found = [book.reached(), book.callers("open"), book.longest("open"), ("open", "open") in book]
        self.assertEqual(found, [["open", "shut"], ["shut"], 4, False])

    def test_books_beside_one_another(self):
        one, other = example_book(), Model(["d", "l"], SCENES, [], "open").book()
        expected = all_told(one), all_told(other)
        all_told(one + ("open", "open"))
        all_told(other.moved("d", 5, 5))
        self.assertEqual((all_told(one), all_told(other)), expected)


if __name__ == "__main__":
    unittest.main()
