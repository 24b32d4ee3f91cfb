import copy
import itertools
import unittest

from calledmidway.books import Book
from calledmidway.drafts import Draft, tried
from calledmidway.errors import (
    ArrowTaken, InvalidArrow, InvalidBook, InvalidEntry, InvalidMotion, InvalidName, InvalidResting, InvalidThings,
    MidwayError, NoFirst, NothingToUndo, TooMany, UnknownArrow, UnknownScene, UnknownThing,
)
from calledmidway.ratios import Ratio
from tests.model import example_book, random_generator, random_model
from tests.test_books import BIG, NO_MOTIONS, attribute
from tests.values import NO_LISTS, NO_NAMES, Like, Other, no_names_of, told

NO_PAIRS = NO_LISTS + ["open", "on", ["on", "d"], ("on",), (), ("on", "d", "l"), (("on", "d"),), slice(1, 2), 7]


def started():
    """A draft with two things, three scenes, arrows, first and resting scenes."""
    draft = Draft(["l", "d"])
    draft["on", "d"] = (8, 4)
    draft["on", "l"] = (-3, 1)
    draft["off", "d"] = (0, 2)
    draft["mid", "l"] = (BIG, BIG)
    draft += ("on", "off")
    draft += ("off", "on")
    draft += ("mid", "mid")
    draft.first_scene = "off"
    draft.resting_scenes = ["on", "mid"]
    return draft


def told_all(draft):
    """Everything that a draft tells."""
    motions = {(scene, thing): draft[scene, thing] for scene in draft.scenes() for thing in draft.things()}
    # A copy, which stays when what the draft has returned is changed.
    return copy.deepcopy(
        [draft.things(), draft.scenes(), motions, draft.arrows(), draft.first_scene, draft.resting_scenes]
    )


def steps_back(draft):
    """What a draft tells behind each undo, on a trial."""
    found = []
    with draft.trial():
        while True:
            found.append(told_all(draft))
            try:
                draft.undo()
            except NothingToUndo:
                return found


def added(draft, arrow):
    draft += arrow


def taken(draft, arrow):
    draft -= arrow


def put(draft, at, worth):
    draft[at] = worth


# One of each kind of change, for the draft `started`.
CHANGES = {
    "motion": lambda draft: put(draft, ("on", "l"), (5, 5)),
    "same motion": lambda draft: put(draft, ("on", "d"), (8, 4)),
    "scene": lambda draft: put(draft, ("new", "l"), (5, 5)),
    "arrow": lambda draft: added(draft, ("mid", "on")),
    "bar": lambda draft: taken(draft, ("on", "off")),
    "first": lambda draft: setattr(draft, "first_scene", "mid"),
    "same first": lambda draft: setattr(draft, "first_scene", "off"),
    "set first": lambda draft: draft.set_first("on"),
    "set same first": lambda draft: draft.set_first("off"),
    "resting": lambda draft: setattr(draft, "resting_scenes", ("off",)),
    "same resting": lambda draft: setattr(draft, "resting_scenes", ["mid", "on"]),
    "set resting": lambda draft: draft.set_resting([]),
    "set same resting": lambda draft: draft.set_resting(("on", "mid")),
    "remove": lambda draft: draft.remove("on"),
    "remove first": lambda draft: draft.remove("off"),
}
# In the sequence of their checks: what is refused for the draft `started`, and how.
REFUSED = [
    (lambda draft: put(draft, "on", (1, 1)), InvalidEntry, "on"),
    (lambda draft: put(draft, ("On", "d"), (1, 1)), InvalidName, "On"),
    (lambda draft: put(draft, ("on", "v"), (1, 1)), UnknownThing, "v"),
    (lambda draft: put(draft, ("on", "d"), (1, 0)), InvalidMotion, (1, 0)),
    (lambda draft: put(draft, ("new", "d"), [1, 1]), InvalidMotion, [1, 1]),
    (lambda draft: added(draft, ("on", "new")), InvalidArrow, ("on", "new")),
    (lambda draft: added(draft, ("on", "off")), ArrowTaken, ("on", "off")),
    (lambda draft: taken(draft, ("off", "off")), UnknownArrow, ("off", "off")),
    (lambda draft: setattr(draft, "first_scene", None), UnknownScene, None),
    (lambda draft: draft.set_first("new"), UnknownScene, "new"),
    (lambda draft: setattr(draft, "resting_scenes", None), InvalidResting, None),
    (lambda draft: draft.set_resting(["on", "on"]), InvalidResting, 1),
    (lambda draft: draft.remove("new"), UnknownScene, "new"),
]


class MadeTest(unittest.TestCase):
    def test_at_first(self):
        for draft in (Draft(["l", "d"]), Draft(("d", "l")), Draft(things=["d", "l"])):
            self.assertEqual(told_all(draft), [["d", "l"], [], {}, [], None, []])
            told(draft.undo, NothingToUndo)
            told(draft.made, NoFirst)

    def test_refused_things(self):
        for value in NO_LISTS + [[], ()]:
            self.assertIs(told(lambda: Draft(value), InvalidThings).position, None)
        for value in NO_NAMES:
            self.assertEqual(told(lambda: Draft([value]), InvalidThings).position, 0)
            self.assertEqual(told(lambda: Draft(["d", "l", value, 1]), InvalidThings).position, 2)
        self.assertEqual(told(lambda: Draft(["d", "l", "d", "l"]), InvalidThings).position, 2)
        self.assertEqual(told(lambda: Draft(["d", "l", "a", "b", "c", "d"]), InvalidThings).position, 5)
        error = told(lambda: Draft(["d", "l", "a", "b", "c"]), TooMany)
        self.assertEqual((error.what, error.limit), ("things", 4))
        self.assertEqual(Draft(["d", "l", "a", "b"]).things(), ["a", "b", "d", "l"])

    def test_of_book(self):
        rng = random_generator(31)
        for _ in range(100):
            book = random_model(rng).book()
            draft = Draft.of_book(book)
            self.assertIs(draft.__class__, Draft)
            self.assertEqual([draft.things(), draft.scenes(), draft.arrows(), draft.first_scene, draft.resting_scenes],
                             [book.things(), book.scenes(), book.arrows(), book.first, book.resting])
            for scene, thing in itertools.product(book.scenes(), book.things()):
                self.assertEqual(draft[scene, thing], (book.goal(scene, thing), book.length(scene, thing)))
            self.assertEqual(draft.made(), book)
            told(draft.undo, NothingToUndo)
        self.assertEqual(Draft.of_book(book=book), draft)

    def test_of_what_is_no_book(self):
        for value in NO_LISTS + [Draft(["d"]), Book, ["d"]]:
            self.assertIs(told(lambda: Draft.of_book(value), InvalidBook).value, value)

    def test_a_draft_and_the_books_it_comes_from_and_makes(self):
        book = example_book(["open"])
        before = repr(book)
        draft = Draft.of_book(book)
        draft["open", "d"] = (1, 1)
        draft -= ("open", "shut")
        draft.remove("shut")
        draft.first_scene = "open"
        first = draft.made()
        self.assertEqual(repr(book), before)
        self.assertEqual(repr(first), "Book(['d', 'l'], {'open': {'d': (1, 1), 'l': (100, 4)}}, [], 'open', ['open'])")
        before = repr(first)
        draft["open", "l"] = (2, 2)
        draft += ("open", "open")
        draft.resting_scenes = []
        self.assertEqual(repr(first), before)
        self.assertEqual(draft.made(), draft.made())
        self.assertEqual(repr(draft.made()),
                         "Book(['d', 'l'], {'open': {'d': (1, 1), 'l': (2, 2)}}, [('open', 'open')], 'open', [])")

    def test_made(self):
        draft = started()
        scenes = {"on": {"d": (8, 4), "l": (-3, 1)}, "off": {"d": (0, 2), "l": (0, 1)},
                  "mid": {"d": (0, 1), "l": (BIG, BIG)}}
        arrows = [("on", "off"), ("off", "on"), ("mid", "mid")]
        expected = Book(["d", "l"], scenes, arrows, "off", ["mid", "on"])
        self.assertEqual(draft.made(), expected)
        self.assertEqual(repr(draft.made()), repr(expected))
        draft.remove("off")
        told(draft.made, NoFirst)
        draft.undo()
        self.assertEqual(draft.made(), expected)

    def test_the_methods_stand_in_the_class(self):
        for name in ("of_book", "things", "scenes", "arrows", "__getitem__", "__setitem__", "__iadd__", "__isub__",
                     "first_scene", "resting_scenes", "set_first", "set_resting", "remove", "undo", "made", "copy",
                     "trial", "__eq__"):
            self.assertIn(name, vars(Draft))
        self.assertEqual((Draft.__module__, tried.__module__), ("calledmidway.drafts",) * 2)


class MotionsTest(unittest.TestCase):
    def test_set_in_old_and_new_scenes(self):
        draft = started()
        self.assertEqual(draft.scenes(), ["mid", "off", "on"])
        self.assertEqual([draft["on", "d"], draft["on", "l"], draft["off", "d"], draft["off", "l"], draft["mid", "d"],
                          draft["mid", "l"]], [(8, 4), (-3, 1), (0, 2), (0, 1), (0, 1), (BIG, BIG)])
        draft["on", "d"] = (-BIG, 1)
        draft["a", "l"] = (3, 3)
        self.assertEqual([draft["on", "d"], draft["on", "l"], draft["a", "d"], draft["a", "l"]],
                         [(-BIG, 1), (-3, 1), (0, 1), (3, 3)])
        self.assertEqual(draft.scenes(), ["a", "mid", "off", "on"])
        self.assertIs(draft["a", "d"].__class__, tuple)

    def test_entries_that_are_none(self):
        draft = started()
        before = steps_back(draft)
        for value in NO_PAIRS:
            self.assertIs(told(lambda: draft[value], InvalidEntry).value, value)
            self.assertIs(told(lambda: put(draft, value, (1, 1)), InvalidEntry).value, value)
            self.assertIs(told(lambda: put(draft, value, None), InvalidEntry).value, value)
        self.assertEqual(steps_back(draft), before)

    def test_read_from_scenes_and_things_that_are_none(self):
        draft = started()
        for value in no_names_of(["on", "off", "mid"]) + [("on", "off"), "new", "d"]:
            self.assertIs(told(lambda: draft[value, "d"], UnknownScene).value, value)
            self.assertIs(told(lambda: draft[value, None], UnknownScene).value, value)
        for value in no_names_of(["d", "l"]) + ["on", "v"]:
            self.assertIs(told(lambda: draft["on", value], UnknownThing).value, value)

    def test_refused_motions(self):
        draft = started()
        before = steps_back(draft)
        for value in NO_NAMES:
            self.assertIs(told(lambda: put(draft, (value, "d"), (1, 1)), InvalidName).value, value)
            self.assertIs(told(lambda: put(draft, (value, "v"), None), InvalidName).value, value)
        for value in no_names_of(["d", "l"]) + ["on", "v"]:
            self.assertIs(told(lambda: put(draft, ("on", value), (1, 1)), UnknownThing).value, value)
            self.assertIs(told(lambda: put(draft, ("new", value), (1, 0)), UnknownThing).value, value)
        for value in NO_MOTIONS:
            for scene in ("on", "new"):
                self.assertIs(told(lambda: put(draft, (scene, "d"), value), InvalidMotion).value, value)
        self.assertEqual(steps_back(draft), before)

    def test_too_many(self):
        for things, scenes, what, limit in ((1, 6, "scenes", 6), (2, 6, "scenes", 6), (3, 5, "motions", 15),
                                            (4, 3, "motions", 15)):
            draft = Draft(["d", "l", "v", "w"][:things])
            for name in "abcdef"[:scenes]:
                draft[name, "d"] = (1, 2)
            before = steps_back(draft)
            error = told(lambda: put(draft, ("z", "d"), (1, 2)), TooMany)
            self.assertEqual((error.what, error.limit), (what, limit))
            told(lambda: put(draft, ("z", "d"), (1, 0)), InvalidMotion)
            told(lambda: put(draft, ("z", "x"), (1, 2)), UnknownThing)
            self.assertEqual(steps_back(draft), before)
            draft["a", "d"] = (3, 3)
            self.assertEqual(draft["a", "d"], (3, 3))
            draft.remove("b")
            draft["z", "d"] = (4, 4)
            self.assertEqual(len(draft.scenes()), scenes)

    def test_it_is_not_iterated_over(self):
        with self.assertRaises(TypeError):
            list(started())


class ChangesTest(unittest.TestCase):
    def test_arrows(self):
        draft = started()
        self.assertEqual(draft.arrows(), [("mid", "mid"), ("off", "on"), ("on", "off")])
        kept = draft
        draft += ("mid", "on")
        draft += ("on", "on")
        self.assertIs(draft, kept)
        self.assertEqual(draft.arrows(), [("mid", "mid"), ("mid", "on"), ("off", "on"), ("on", "off"), ("on", "on")])
        draft -= ("off", "on")
        draft -= ("mid", "mid")
        self.assertIs(draft, kept)
        self.assertEqual(draft.arrows(), [("mid", "on"), ("on", "off"), ("on", "on")])

    def test_refused_arrows(self):
        draft = started()
        before = steps_back(draft)
        for value in NO_LISTS + [
            [], ["on", "on"], ("on",), (), ("on", "on", "on"), ("on", "new"), ("new", "on"), ("d", "l"), (["on"], "on"),
            ("on", {}), "on", ("On", "off"), draft, Like(), ("on", Like()),
        ]:
            self.assertIs(told(lambda: added(draft, value), InvalidArrow).value, value)
            self.assertIs(told(lambda: taken(draft, value), UnknownArrow).value, value)
        for arrow in (("on", "off"), ("mid", "mid")):
            self.assertEqual(told(lambda: added(draft, arrow), ArrowTaken).value, arrow)
        for arrow in (("on", "on"), ("off", "mid")):
            self.assertEqual(told(lambda: taken(draft, arrow), UnknownArrow).value, arrow)
        self.assertEqual(steps_back(draft), before)

    def test_first(self):
        draft = started()
        self.assertEqual(draft.first_scene, "off")
        draft.first_scene = "mid"
        self.assertEqual((draft.first_scene, draft.made().first), ("mid", "mid"))
        draft.set_first("on")
        self.assertEqual((draft.first_scene, draft.made().first), ("on", "on"))
        draft.set_first(value="off")
        self.assertEqual(draft.first_scene, "off")
        before = steps_back(draft)
        for value in no_names_of(["on", "off", "mid"]) + [("on", "off"), "new", "d"]:
            self.assertIs(told(lambda: draft.set_first(value), UnknownScene).value, value)
            self.assertIs(told(lambda: setattr(draft, "first_scene", value), UnknownScene).value, value)
        self.assertEqual(steps_back(draft), before)

    def test_resting(self):
        draft = started()
        self.assertEqual(draft.resting_scenes, ["mid", "on"])
        passed = ["on", "off"]
        draft.resting_scenes = passed
        passed.append("mid")
        self.assertEqual((draft.resting_scenes, draft.made().resting), (["off", "on"], ["off", "on"]))
        draft.set_resting(("mid",))
        self.assertEqual(draft.resting_scenes, ["mid"])
        draft.set_resting(value=[])
        self.assertEqual(draft.resting_scenes, [])
        draft.resting_scenes = ("on", "mid", "off")
        self.assertEqual(draft.resting_scenes, ["mid", "off", "on"])
        self.assertIs(draft.resting_scenes.__class__, list)

    def test_refused_resting(self):
        draft = started()
        before = steps_back(draft)
        for value, position in [(value, None) for value in NO_LISTS] + [
            (["on", value], 1) for value in no_names_of(["on", "off", "mid"])
        ] + [(("on", "off", "on", "x"), 2), (["new", "new"], 0), ([("on", "off")], 0)]:
            for action in (lambda: draft.set_resting(value), lambda: setattr(draft, "resting_scenes", value)):
                self.assertEqual(attribute(told(action, InvalidResting)), position)
        self.assertEqual(steps_back(draft), before)

    def test_remove(self):
        draft = started()
        draft += ("mid", "on")
        draft += ("mid", "off")
        draft.remove("on")
        self.assertEqual(told_all(draft)[1:2] + told_all(draft)[3:],
                         [["mid", "off"], [("mid", "mid"), ("mid", "off")], "off", ["mid"]])
        self.assertEqual([draft["mid", "l"], draft["off", "d"]], [(BIG, BIG), (0, 2)])
        draft.remove(scene="off")
        self.assertEqual(told_all(draft)[1:2] + told_all(draft)[3:], [["mid"], [("mid", "mid")], None, ["mid"]])
        draft.remove("mid")
        self.assertEqual(told_all(draft), [["d", "l"], [], {}, [], None, []])
        self.assertEqual(told(lambda: draft.remove("mid"), UnknownScene).value, "mid")

    def test_refused_remove(self):
        draft = started()
        before = steps_back(draft)
        for value in no_names_of(["on", "off", "mid"]) + [("on", "off"), "new", "d"]:
            self.assertIs(told(lambda: draft.remove(value), UnknownScene).value, value)
        self.assertEqual(steps_back(draft), before)

    def test_a_scene_removed_and_set_again_is_new(self):
        draft = started()
        draft.remove("on")
        draft["on", "l"] = (1, 1)
        self.assertEqual([draft["on", "d"], draft.arrows(), draft.resting_scenes], [(0, 1), [("mid", "mid")], ["mid"]])

    def test_two_wrong_at_once(self):
        draft = started()
        for at, worth, error, value in [
            ("on", None, InvalidEntry, "on"), ((None, "v"), None, InvalidName, None),
            (("on", "v"), None, UnknownThing, "v"), (("new", []), (1, 0), UnknownThing, []),
            (("on", "d"), None, InvalidMotion, None),
        ]:
            self.assertEqual(attribute(told(lambda: put(draft, at, worth), error)), value)
        self.assertEqual(told(lambda: draft["new", "v"], UnknownScene).value, "new")

    def test_what_is_returned_may_be_changed(self):
        draft = started()
        before = steps_back(draft)
        for value in (draft.things(), draft.scenes(), draft.arrows(), draft.resting_scenes):
            self.assertIs(value.__class__, list)
            value.append("x")
            value.pop(0)
        self.assertEqual(steps_back(draft), before)
        things = ["d", "l"]
        draft = Draft(things)
        things.append("v")
        self.assertEqual(draft.things(), ["d", "l"])


class UndoTest(unittest.TestCase):
    def test_one_change_of_each_kind(self):
        for change in CHANGES.values():
            draft = started()
            before = steps_back(draft)
            change(draft)
            self.assertEqual(steps_back(draft), [told_all(draft)] + before)
            self.assertIsNone(draft.undo())
            self.assertEqual(steps_back(draft), before)

    def test_what_the_changes_change(self):
        for name, change in CHANGES.items():
            draft = started()
            before = told_all(draft)
            change(draft)
            self.assertIs(told_all(draft) == before, "same" in name)

    def test_all_of_them_behind_one_another(self):
        draft = started()
        states = [told_all(draft)]
        names = ["motion", "same motion", "scene", "arrow", "same first", "set first", "resting", "bar", "remove",
                 "set resting", "remove first"]
        for name in names:
            CHANGES[name](draft)
            states.append(told_all(draft))
        for state in reversed(states):
            self.assertEqual(told_all(draft), state)
            draft.undo()
        while draft.scenes():
            draft.undo()
        self.assertEqual(draft, Draft(["d", "l"]))
        told(draft.undo, NothingToUndo)
        told(draft.undo, NothingToUndo)

    def test_an_undo_is_no_change(self):
        draft = Draft(["d"])
        draft["on", "d"] = (1, 1)
        draft["on", "d"] = (2, 2)
        draft.undo()
        self.assertEqual(draft["on", "d"], (1, 1))
        draft.undo()
        self.assertEqual(draft.scenes(), [])
        told(draft.undo, NothingToUndo)
        draft["on", "d"] = (3, 3)
        draft.undo()
        told(draft.undo, NothingToUndo)

    def test_refused_changes_change_nothing(self):
        draft = started()
        before = steps_back(draft)
        for action, error, value in REFUSED:
            self.assertEqual(attribute(told(lambda: action(draft), error)), value)
            self.assertEqual(steps_back(draft), before)

    def test_three_hundred_changes(self):
        draft = Draft(["d"])
        for number in range(300):
            draft["on", "d"] = (number, 1)
        for number in reversed(range(300)):
            self.assertEqual(draft["on", "d"], (number, 1))
            draft.undo()
        told(draft.undo, NothingToUndo)

    def test_random_changes(self):
        rng = random_generator(32)
        for _ in range(30):
            draft, states = started(), None
            states = list(reversed(steps_back(draft)))
            for _ in range(40):
                change = rng.choice(list(CHANGES.values()) + [action for action, _, _ in REFUSED] + [Draft.undo] * 8)
                try:
                    change(draft)
                except NothingToUndo:
                    self.assertEqual(len(states), 1)
                except (MidwayError, LookupError, ArrowTaken):
                    pass
                else:
                    states = states[:-1] if change is Draft.undo else states + [told_all(draft)]
                self.assertEqual(told_all(draft), states[-1])
            self.assertEqual(steps_back(draft), list(reversed(states)))


class CopyTest(unittest.TestCase):
    def test_copies_change_independently(self):
        draft = started()
        before = steps_back(draft)
        other = draft.copy()
        self.assertIs(other.__class__, Draft)
        self.assertIsNot(other, draft)
        self.assertTrue(other == draft)
        told(other.undo, NothingToUndo)
        self.assertEqual(told_all(other), before[0])
        for change in CHANGES.values():
            copied = draft.copy()
            change(copied)
            self.assertEqual(steps_back(draft), before)
            self.assertEqual(len(steps_back(copied)), 2)
        for name in ("motion", "scene", "arrow", "first", "resting"):
            CHANGES[name](draft)
        self.assertEqual(told_all(other), before[0])

    def test_equal(self):
        self.assertTrue(started() == started())
        self.assertFalse(started() != started())
        for name, change in CHANGES.items():
            draft = started()
            change(draft)
            self.assertIs(draft == started(), "same" in name)
            self.assertIs(draft != started(), "same" not in name)
        self.assertFalse(Draft(["d"]) == Draft(["l"]))
        self.assertFalse(Draft(["d"]) == Draft(["d", "l"]))
        self.assertTrue(Draft(["d", "l"]) == Draft(("l", "d")))

    def test_the_way_to_it_has_no_effect(self):
        one, other = Draft(["d", "l"]), Draft(["l", "d"])
        one["on", "d"] = (1, 1)
        one["off", "l"] = (2, 2)
        one += ("on", "off")
        one += ("off", "off")
        one.resting_scenes = ["on", "off"]
        other["off", "l"] = (7, 7)
        other["off", "l"] = (2, 2)
        other["on", "d"] = (1, 1)
        other += ("off", "off")
        other += ("on", "off")
        other.resting_scenes = ["off", "on"]
        self.assertTrue(one == other)
        self.assertEqual(told_all(one), told_all(other))

    def test_not_equal_to_values_of_another_kind(self):
        draft = started()
        for value in NO_LISTS + [[], (), draft.made(), told_all(draft)]:
            self.assertIs(draft == value, False)
            self.assertIs(value == draft, False)
            self.assertIs(draft != value, True)


class Stop(Exception):
    pass


class TrialTest(unittest.TestCase):
    def test_changes_in_it(self):
        draft = started()
        before = steps_back(draft)
        for change in CHANGES.values():
            with draft.trial() as held:
                self.assertIs(held, draft)
                change(held)
                self.assertEqual(steps_back(draft)[1:], before)
            self.assertEqual(steps_back(draft), before)

    def test_changes_from_before_taken_back_in_it(self):
        draft = started()
        before = steps_back(draft)
        with draft.trial():
            draft.undo()
            draft.undo()
            self.assertEqual(steps_back(draft), before[2:])
            draft["zoom", "d"] = (1, 1)
        self.assertEqual(steps_back(draft), before)
        with draft.trial():
            while draft.scenes():
                draft.undo()
            told(draft.undo, NothingToUndo)
        self.assertEqual(steps_back(draft), before)

    def test_an_error_goes_on(self):
        draft = started()
        before = steps_back(draft)
        for error in (Stop("x"), InvalidName(1), KeyError("d"), NothingToUndo()):
            with self.assertRaises(error.__class__) as caught:
                with draft.trial() as held:
                    held.remove("on")
                    raise error
            self.assertIs(caught.exception, error)
            self.assertEqual(steps_back(draft), before)

    def test_left_in_other_ways(self):
        draft = started()
        before = steps_back(draft)

        def leave():
            for _ in range(3):
                with draft.trial() as held:
                    held.undo()
                    break
            with draft.trial() as held:
                held.remove("on")
                return held.scenes()

        self.assertEqual(leave(), ["mid", "off"])
        self.assertEqual(steps_back(draft), before)

    def test_a_trial_begins_with_its_block(self):
        draft = started()
        trial = draft.trial()
        draft.remove("on")
        before = steps_back(draft)
        with trial:
            draft.remove("off")
        self.assertEqual(steps_back(draft), before)
        draft.remove("mid")
        before = steps_back(draft)
        with trial as held:
            held.undo()
        self.assertEqual(steps_back(draft), before)

    def test_behind_a_trial_it_goes_on(self):
        draft = started()
        with draft.trial():
            draft.remove("on")
        draft["on", "d"] = (9, 9)
        self.assertEqual(draft["on", "d"], (9, 9))
        draft.undo()
        self.assertEqual(told_all(draft), told_all(started()))

    def test_a_copy_made_in_a_trial_stays(self):
        draft = started()
        with draft.trial() as held:
            held.remove("on")
            copied = held.copy()
        self.assertEqual((copied.scenes(), draft.scenes()), (["mid", "off"], ["mid", "off", "on"]))


class TriedTest(unittest.TestCase):
    def test_an_action_that_ends_well(self):
        draft = started()
        before = steps_back(draft)
        seen = []

        def action(value):
            seen.append(value)
            value.undo()
            value.remove("off")
            return value.scenes()

        self.assertEqual(tried(draft, action), ["mid", "on"])
        self.assertIs(seen[0], draft)
        self.assertEqual(len(seen), 1)
        self.assertEqual(steps_back(draft), before)
        self.assertEqual(tried(action=lambda value: None, draft=draft), None)
        marker = Other()
        self.assertIs(tried(draft, lambda value: marker), marker)
        self.assertEqual(tried(draft, Draft.made), draft.made())

    def test_an_action_that_raises(self):
        draft = started()
        before = steps_back(draft)

        def action(value):
            value.remove("on")
            value.remove("on")

        self.assertEqual(told(lambda: tried(draft, action), UnknownScene).value, "on")
        self.assertEqual(steps_back(draft), before)

        def other(value):
            value.set_first("on")
            raise Stop("x")

        with self.assertRaises(Stop):
            tried(draft, other)
        self.assertEqual(steps_back(draft), before)

    def test_all_changes(self):
        draft = started()
        before = steps_back(draft)
        for change in CHANGES.values():
            tried(draft, change)
            self.assertEqual(steps_back(draft), before)
        for action, error, _ in REFUSED:
            told(lambda: tried(draft, action), error)
            self.assertEqual(steps_back(draft), before)


class BesideTest(unittest.TestCase):
    def test_drafts_beside_one_another(self):
        one, other = started(), started()
        before = steps_back(other)
        for change in list(CHANGES.values())[:10]:
            change(one)
            self.assertEqual(steps_back(other), before)
        with one.trial():
            one.undo()
            CHANGES["first"](other)
        self.assertEqual(steps_back(other)[1:], before)
        fresh, next_one = Draft(["d"]), Draft(["d"])
        fresh["on", "d"] = (1, 1)
        self.assertEqual((fresh.scenes(), next_one.scenes()), (["on"], []))

    def test_drafts_of_one_book(self):
        book = example_book()
        one, other = Draft.of_book(book), Draft.of_book(book)
        one["open", "d"] = (1, 1)
        one -= ("open", "shut")
        one.first_scene = "open"
        one.resting_scenes = ["open"]
        self.assertEqual(other.made(), book)
        self.assertEqual(Draft.of_book(book).made(), example_book())

    def test_the_example_of_the_stage(self):
        draft = Draft(["d"])
        draft["on", "d"] = (8, 4)
        draft["off", "d"] = (0, 2)
        draft.first_scene = "off"
        self.assertEqual([draft["on", "d"], draft.scenes(), draft.made().reached()], [(8, 4), ["off", "on"], ["off"]])

    def test_ratios_are_no_motions(self):
        draft = Draft(["d"])
        self.assertEqual(told(lambda: put(draft, ("on", "d"), (Ratio(1), 1)), InvalidMotion).value, (Ratio(1), 1))


if __name__ == "__main__":
    unittest.main()
