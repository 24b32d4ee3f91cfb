import itertools
import unittest

from calledmidway.books import Book
from calledmidway.bounds import greatest, keeps, span
from calledmidway.drafts import Draft
from calledmidway.errors import (
    InvalidBook, InvalidForm, InvalidMends, InvalidWishes, TooMany, UnknownThing,
)
from calledmidway.forms import Form
from calledmidway.mends import broken, broken_run, is_mend, least_mends, mended, needed_arrows
from calledmidway.ratios import Ratio
from calledmidway.runs import Run
from tests.model import GAP, SCENES, Model, example_book, full_model, random_form, random_generator, random_model
from tests.test_corners import NO_BOOKS, STRANGE
from tests.values import NO_FORMS, NO_LISTS, NO_NUMBERS, Like, Other, told

BIG = 123456789012345678901234567890
TINY = Ratio(1, BIG)
D, L = Form.of("d"), Form.of("l")
ALLOWED = [("rest", "open"), ("rest", "shut"), ("bar", "open", "shut"), ("bar", "shut", "open")]
NO_MENDS = [
    ("bar", "open", "open"), ("bar", "shut", "shut"), ("bar", "open", "nowhere"), ("bar", "open"), ("bar",), (),
    ("rest",),
    ("rest", "open", "shut"), ("rest", "nowhere"), ("rest", ("open",)), ("rest", "d"), ("bar", ("open", "shut")),
    ["bar", "open", "shut"], ["rest", "open"], ("Bar", "open", "shut"), ("rest ", "open"), ("open", "shut"),
    ("rest", None), ("rest", ["open"]), ("bar", "open", ["shut"]), ("bar", None, "shut"), (None, "open"), ("", "open"),
    ("bar", "open", "shut", "open"), "rest", "bar open shut", None, True, 0, 1, {"rest": "open"},
    {"bar", "open", "shut"},
    b"rest", (b"rest", b"open"), Ratio(1), D, Like(), (Like(), "open"), ("rest", Like()), ("bar", Like(), Like()),
    (Like(), Like()), (Like(), Like(), Like()), Other(), ("draw", "open"), (0, "open"),
]


def mends_of(model):
    rows = [("bar", *arrow) for arrow in model.arrows]
    return rows + [("rest", scene) for scene in model.scenes if scene not in model.resting]


def with_mends(model, mends):
    arrows = [arrow for arrow in model.arrows if ("bar", *arrow) not in mends]
    resting = sorted(model.resting + [mend[1] for mend in mends if mend[0] == "rest"])
    return Model(model.things, model.scenes, arrows, model.first, resting)


def some_mends(rng, model, most=5):
    rows = mends_of(model)
    rng.shuffle(rows)
    return rows[:rng.randint(0, most)]


class MendedTest(unittest.TestCase):
    def test_is_mend(self):
        book = example_book()
        for value in ALLOWED:
            self.assertIs(is_mend(book, value), True)
            self.assertIs(is_mend(value=value, book=book), True)
        for value in NO_MENDS:
            self.assertIs(is_mend(book, value), False, value)
        self.assertIs(is_mend(example_book(["open"]), ("rest", "open")), False)
        self.assertIs(is_mend(example_book(["open"]), ("rest", "shut")), True)
        self.assertIs(is_mend(book - ("open", "shut"), ("bar", "open", "shut")), False)
        self.assertIs(is_mend(book + ("open", "open"), ("bar", "open", "open")), True)

    def test_is_mend_of_all_books(self):
        rng = random_generator(401)
        for _ in range(60):
            model = random_model(rng)
            book, names = model.book(), list(model.scenes) + ["nowhere"]
            for value in [(word, *row) for word in ("bar", "rest") for many in (1, 2)
                          for row in itertools.product(names, repeat=many)]:
                self.assertIs(is_mend(book, value), value in mends_of(model))

    def test_scenes_that_are_not_reached(self):
        book = example_book() - ("shut", "open")
        self.assertIs(is_mend(book, ("bar", "open", "shut")), True)
        self.assertIs(is_mend(book, ("rest", "open")), True)

    def test_with_none_one_and_all_mends_in_any_sequence(self):
        rng = random_generator(402)
        for _ in range(60):
            model = random_model(rng)
            book, rows = model.book(), mends_of(model)
            for mends in [[], rows, rows[::-1], tuple(rows), *[[row] for row in rows[:5]], some_mends(rng, model, 9)]:
                found = mended(book, mends)
                self.assertEqual((found, found.__class__), (with_mends(model, mends).book(), Book))
                self.assertEqual(book, model.book())

    def test_by_hand(self):
        book = example_book()
        found = mended(book, [("rest", "open"), ("bar", "shut", "open")])
        self.assertEqual((found.arrows(), found.resting, found.reached()), ([("open", "shut")], ["open"], ["shut"]))
        self.assertEqual(mended(mends=(), book=book), book)
        self.assertEqual(mended(book, ALLOWED).arrows(), [])
        self.assertEqual(mended(book, ALLOWED).resting, ["open", "shut"])
        self.assertEqual((book.arrows(), book.resting), (example_book().arrows(), []))

    def test_what_they_tell_is_what_a_book_made_anew_tells(self):
        rng = random_generator(403)
        for _ in range(40):
            model = random_model(rng, 3, 4)
            mends, form = some_mends(rng, model), random_form(rng, model.things)
            found = mended(model.book(), mends)
            self.assertEqual(span(found, form), span(Draft.of_book(with_mends(model, mends).book()).made(), form))
            self.assertEqual(found.reached(), with_mends(model, mends).reached())

    def test_mends_never_make_a_greatest_value_greater(self):
        rng, seen = random_generator(404), set()
        for _ in range(80):
            model = random_model(rng, 3, 4)
            book, mends, form = model.book(), some_mends(rng, model), random_form(rng, model.things)
            before, behind = greatest(book, form), greatest(mended(book, mends), form)
            self.assertFalse(before.is_below(behind))
            seen.add(behind == before)
        self.assertEqual(seen, {True, False})

    def test_where_they_are_defined(self):
        for function in (is_mend, mended, broken, broken_run, least_mends, needed_arrows):
            self.assertEqual(function.__module__, "calledmidway.mends")


class BrokenTest(unittest.TestCase):
    def wishes(self, rng, model, book):
        rows = []
        for _ in range(rng.randint(0, 4)):
            form = random_form(rng, model.things)
            value = greatest(book, form)
            rows.append((form,
                         rng.choice([value, value - TINY, value + TINY, value - 3, value + 3, rng.randint(-9, 9)])))
        return rows

    def assert_broken_run(self, book, wishes):
        expected = [at for at, (form, bound) in enumerate(wishes) if not keeps(book, form, bound)]
        found = broken(book, wishes)
        self.assertEqual((found, found.__class__), (expected, list))
        self.assertLessEqual({position.__class__ for position in found}, {int})
        found = broken_run(book, wishes)
        if not expected:
            self.assertIsNone(found)
            return
        self.assertEqual((found.__class__, len(found)), (tuple, 2))
        position, run = found
        form, bound = wishes[position]
        self.assertEqual((position, run.__class__, run.book), (expected[0], Run, book))
        self.assertTrue((Ratio(0) + bound).is_below(form(Run(book, run.calls()).end())))

    def test_against_keeps(self):
        rng, seen = random_generator(405), set()
        for _ in range(100):
            model = random_model(rng)
            book = model.book()
            wishes = self.wishes(rng, model, book)
            self.assert_broken_run(book, wishes)
            self.assert_broken_run(book, tuple(wishes))
            seen.add(tuple(broken(book, wishes))[:1])
        self.assertLessEqual({(), (0,), (1,)}, seen)

    def test_kept_just_kept_and_a_little_broken(self):
        book = example_book()
        for bounds, expected in [([50], []), ([51], []), ([Ratio(50) - TINY], [0]), ([Ratio(50)], []), ([49], [0]),
                                 ([50, 49, 50, 48], [1, 3]), ([60, 50, 49], [2]), ([0, 0], [0, 1]), ([], [])]:
            wishes = [(GAP, bound) for bound in bounds]
            self.assertEqual(broken(book, wishes), expected)
            self.assertEqual(broken(wishes=tuple(wishes), book=book), expected)
            self.assert_broken_run(book, wishes)
        wishes = [(-GAP, 0), (GAP + 1, Ratio(51)), (GAP * 2, 99), (Form(None, 3), 3), (Form(None, 3), 2),
                  (D, Ratio(199, 2))]
        self.assertEqual(broken(book, wishes), [2, 4, 5])
        self.assertEqual(broken_run(wishes=wishes, book=book)[0], 2)
        self.assert_broken_run(book, wishes[3:])

    def test_resting_scenes(self):
        # Only the last call may end amid a motion.
        for resting in (["open"], ["shut"], ["open", "shut"]):
            book = example_book(resting)
            for bound in (50, Ratio(50) - TINY, 10):
                self.assert_broken_run(book, [(-GAP, 0), (GAP, bound)])

    def test_what_is_passed_and_returned_may_be_changed(self):
        book, wishes = example_book(), [(GAP, 49)]
        broken(book, wishes).clear()
        self.assertEqual((broken(book, wishes), wishes), ([0], [(GAP, 49)]))
        self.assertEqual(broken_run(book, wishes), broken_run(book, wishes))


class LeastMendsTest(unittest.TestCase):
    def by_trying(self, model, wishes, allowed):
        """The least sets, by trying all sets of mends."""
        keeping = []
        for many in range(len(allowed) + 1):
            for chosen in itertools.combinations(sorted(allowed), many):
                if any(set(less) <= set(chosen) for less in keeping):
                    continue
                book = with_mends(model, chosen).book()
                if all(keeps(book, form, bound) for form, bound in wishes):
                    keeping.append(chosen)
        return keeping

    def assert_least(self, model, wishes, allowed):
        expected = self.by_trying(model, wishes, allowed)
        found = least_mends(model.book(), wishes, allowed)
        self.assertEqual((found, found.__class__), (expected, list))
        self.assertLessEqual({chosen.__class__ for chosen in found}, {tuple})
        return found

    def test_against_all_sets_of_the_allowed_mends(self):
        rng, seen = random_generator(406), set()
        for at in range(45):
            model = random_model(rng, 3, 4) if at else full_model(rng, 2, 3)
            book, allowed, wishes = model.book(), some_mends(rng, model, 5), []
            for _ in range(rng.choice([1, 1, 2, 3])):
                form = random_form(rng, model.things)
                values = [greatest(mended(book, some_mends(rng, model)), form) for _ in range(2)]
                wishes.append((form, rng.choice(values) - rng.choice([0, 0, 0, TINY])))
            found = self.assert_least(model, wishes, allowed)
            seen.add((min(3, len(found)), max([len(chosen) for chosen in found], default=None)))
            shuffled = list(allowed)
            rng.shuffle(shuffled)
            self.assertEqual(least_mends(book, wishes[::-1], shuffled), found)
        self.assertLessEqual({(0, None), (1, 0), (1, 1), (1, 2)}, seen)

    def test_the_book_of_the_document(self):
        book = example_book()
        for wishes, expected in [
            ([(GAP, 40)], [(("bar", "shut", "open"),)]), ([(GAP, 50)], [()]), ([(GAP, -1)], []), ([], [()]),
            ([(GAP, Ratio(50) - TINY)], [(("bar", "shut", "open"),)]), ([(GAP, 0)], [(("bar", "shut", "open"),)]),
            ([(GAP, 50), (GAP, 40), (D, -1)], []),
        ]:
            self.assertEqual(least_mends(book, wishes, ALLOWED), expected)
            self.assertEqual(least_mends(allowed=tuple(ALLOWED[::-1]), wishes=tuple(wishes), book=book), expected)
        self.assertEqual(least_mends(book, [(GAP, 40)], []), [])
        self.assertEqual(least_mends(book, [(GAP, 50)], []), [()])
        self.assertEqual(least_mends(book, [(GAP, 40)], ALLOWED[:3]), [])

    def test_several_sets_and_their_sequence(self):
        # From a, z is reached by three ways; each of them can be barred ahead of z or behind a.
        names = ["a", "b", "c", "z"]
        scenes = {name: {"d": (9 if name == "z" else 0, 1)} for name in names}
        arrows = [("a", "b"), ("b", "z"), ("a", "c"), ("c", "z")]
        model = Model(["d"], scenes, arrows, "a")
        allowed = [("bar", *arrow) for arrow in arrows[::-1]]
        expected = [
            (("bar", "a", "b"), ("bar", "a", "c")), (("bar", "a", "b"), ("bar", "c", "z")),
            (("bar", "a", "c"), ("bar", "b", "z")), (("bar", "b", "z"), ("bar", "c", "z")),
        ]
        self.assertEqual(self.assert_least(model, [(D, 8)], allowed), expected)
        model = Model(["d"], scenes, [*arrows, ("a", "z")], "a")
        allowed = [("bar", "a", "z"), ("bar", "b", "z"), ("bar", "c", "z"), ("bar", "a", "b"), ("rest", "z"),
                   ("rest", "a")]
        self.assertEqual(self.assert_least(model, [(D, 8)], allowed), [
            (("bar", "a", "b"), ("bar", "a", "z"), ("bar", "c", "z")),
            (("bar", "a", "z"), ("bar", "b", "z"), ("bar", "c", "z")),
        ])
        # One mend alone comes ahead of two.
        scenes = {"a": {"d": (0, 1)}, "b": {"d": (5, 1)}, "c": {"d": (9, 1)}}
        model = Model(["d"], scenes, [("a", "b"), ("b", "c"), ("b", "b")], "a")
        self.assertEqual(self.assert_least(model, [(D, 5)], [("bar", "b", "c"), ("bar", "a", "b"), ("bar", "b", "b")]),
                         [(("bar", "a", "b"),), (("bar", "b", "c"),)])

    def test_a_set_of_one_mend_and_sets_of_several(self):
        scenes = {name: {"d": (9 if name == "y" else 0, 1)} for name in "abcyz"}
        arrows = [("a", "b"), ("a", "c"), ("b", "z"), ("c", "z"), ("z", "y")]
        allowed = [("bar", "z", "y"), ("bar", "c", "z"), ("bar", "b", "z"), ("rest", "z"), ("bar", "a", "b")]
        for more in ([], [("rest", "y")], [("bar", "a", "c")]):
            found = self.assert_least(Model(["d"], scenes, arrows, "a"), [(D, 8), (D, 9)], allowed + more)
            self.assertEqual(found[0], (("bar", "z", "y"),))
            self.assertEqual([len(chosen) for chosen in found], [1, 2, 2] + [2, 2] * (more == [("bar", "a", "c")]))

    def test_two_wishes_that_need_two_mends(self):
        scenes = {"a": {"d": (0, 1), "l": (0, 1)}, "b": {"d": (5, 1), "l": (0, 1)}, "c": {"d": (0, 1), "l": (7, 1)}}
        model = Model(["d", "l"], scenes, [("a", "b"), ("a", "c"), ("b", "c"), ("b", "a"), ("c", "a")], "a")
        allowed = [("bar", "a", "b"), ("bar", "a", "c"), ("bar", "b", "c"), ("rest", "b")]
        self.assertEqual(self.assert_least(model, [(D, 4), (L, 6)], allowed), [(("bar", "a", "b"), ("bar", "a", "c"))])
        self.assertEqual(self.assert_least(model, [(L, 6), (D, 5)], allowed), [
            (("bar", "a", "b"), ("bar", "a", "c")), (("bar", "a", "c"), ("bar", "b", "c"))])

    def test_resting_mends(self):
        # The gap comes to more than 36 only if b is left amid its motion.
        scenes = {"a": {"d": (0, 1), "l": (0, 1)}, "b": {"d": (60, 1), "l": (60, 2)},
                  "c": {"d": (100, 1), "l": (100, 9)}}
        model = Model(["d", "l"], scenes, [("a", "b"), ("b", "c")], "a")
        allowed = [("rest", "b"), ("rest", "c"), ("bar", "b", "c"), ("rest", "a")]
        either = [(("bar", "b", "c"),), (("rest", "b"),)]
        for bound, expected in [(89, [()]), (Ratio(800, 9), [()]), (88, either), (36, either), (Ratio(320, 9), either),
                                (35, either[:1]), (30, either[:1]), (29, []), (0, [])]:
            self.assertEqual(self.assert_least(model, [(D - L, bound)], allowed), expected)

    def test_eight_allowed_mends_and_nine(self):
        names = "abcefg"
        scenes = {name: {"d": (at, 1 + at), "l": (-at, 6 - at)} for at, name in enumerate(names)}
        arrows = [pair for pair in itertools.product(names, names) if pair[0] != pair[1]]
        model = Model(["d", "l"], scenes, arrows, "a")
        allowed = [("bar", *arrow) for arrow in arrows[:5]] + [("rest", "g"), ("rest", "f"), ("rest", "a")]
        for bound in (10, 9, 8, 4, -1):
            self.assert_least(model, [(D - L, bound)], allowed)
        for more in (("rest", "b"), ("bar", "g", "a")):
            for wishes in ([(D - L, 4)], [], [(D, 99)]):
                error = told(lambda: least_mends(model.book(), wishes, allowed + [more]), TooMany)
                self.assertEqual((error.what, error.limit), ("mends", 8))
        # Errors of parameters come first.
        error = told(lambda: least_mends(model.book(), [], allowed + [("rest", "b"), ("rest", "b")]), InvalidMends)
        self.assertEqual(error.position, 9)
        self.assertEqual(told(lambda: least_mends(model.book(), [None], allowed + [more]), InvalidWishes).position, 0)

    def test_many_wishes_and_great_books(self):
        rng = random_generator(408)
        for things, scenes in ((4, 3), (3, 5), (2, 6)):
            model = full_model(rng, things, scenes)
            book, allowed = model.book(), mends_of(model)
            rng.shuffle(allowed)
            allowed = allowed[:8]
            forms = [Form({thing: rng.choice([-2, -1, 1, 3]) for thing in model.things}) for _ in range(4)]
            best = mended(book, allowed)
            wishes = [(form, greatest(best, form)) for form in forms]
            found = least_mends(book, wishes, allowed)
            self.assertGreater(len(found), 0)
            for chosen in found:
                self.assertEqual(broken(mended(book, chosen), wishes), [])
                for mend in chosen:
                    self.assertNotEqual(broken(mended(book, [one for one in chosen if one != mend]), wishes), [])
            wishes[0] = (forms[0], greatest(best, forms[0]) - TINY)
            self.assertEqual(least_mends(book, wishes, allowed), [])

    def test_what_is_passed_and_returned_may_be_changed(self):
        book, wishes, allowed = example_book(), [(GAP, 40)], list(ALLOWED)
        least_mends(book, wishes, allowed).clear()
        self.assertEqual(least_mends(book, wishes, allowed), [(("bar", "shut", "open"),)])
        self.assertEqual((book, wishes, allowed), (example_book(), [(GAP, 40)], ALLOWED))


class NeededArrowsTest(unittest.TestCase):
    def test_held_against_leaving_out_each_arrow(self):
        rng, seen = random_generator(409), set()
        for _ in range(60):
            model = random_model(rng, 3, 4)
            book, form = model.book(), random_form(rng, model.things)
            expected = []
            for arrow in sorted(model.arrows):
                left = Model(model.things, model.scenes, [one for one in model.arrows if one != arrow], model.first,
                             model.resting)
                if greatest(left.book(), form).is_below(greatest(book, form)):
                    expected.append(arrow)
            found = needed_arrows(book, form)
            self.assertEqual((found, found.__class__), (expected, list))
            seen.add(min(2, len(found)))
        self.assertEqual(seen, {0, 1, 2})

    def test_by_hand(self):
        book = example_book()
        self.assertEqual(needed_arrows(book, GAP), [("shut", "open")])
        self.assertEqual(needed_arrows(form=-GAP, book=book), [])
        self.assertEqual(needed_arrows(book, Form()), [])
        self.assertEqual(needed_arrows(book - ("shut", "open"), GAP), [])
        way = Book(["d"], {"a": {"d": (0, 1)}, "b": {"d": (1, 1)}, "c": {"d": (2, 1)}},
                   [("b", "c"), ("a", "b"), ("c", "a")], "a")
        self.assertEqual(needed_arrows(way, D), [("a", "b"), ("b", "c")])
        needed_arrows(way, D).clear()
        self.assertEqual(needed_arrows(way, D), [("a", "b"), ("b", "c")])


class RefusedTest(unittest.TestCase):
    def test_books(self):
        for value in NO_BOOKS:
            for action in (lambda: is_mend(value, None), lambda: mended(value, None), lambda: broken(value, None),
                           lambda: broken_run(value, None), lambda: least_mends(value, None, None),
                           lambda: needed_arrows(value, None), lambda: mended(value, [])):
                self.assertIs(told(action, InvalidBook).value, value)

    def wishing(self, wishes):
        book = example_book()
        return [lambda: broken(book, wishes), lambda: broken_run(book, wishes),
                lambda: least_mends(book, wishes, ALLOWED),
                lambda: least_mends(book, wishes, None), lambda: least_mends(book, wishes, [None] * 9)]

    def test_wishes(self):
        for value in NO_LISTS + [Like(), example_book(), Run(example_book())]:
            for action in self.wishing(value):
                self.assertIsNone(told(action, InvalidWishes).position)
        wrong = [None, 0, GAP, [GAP, 50], (GAP,), (GAP, 50, 50), (), (50, GAP), ("d", 50), (None, 50), {GAP.pure: 50},
                 "ab",
                 Like(), (Like(), 50), ({"d": 1}, 50), (Ratio(1), 50)]
        wrong += [(GAP, value) for value in NO_NUMBERS] + [(form, 50) for form, _ in STRANGE]
        wrong += [(value, 50) for value in NO_FORMS]
        for value in wrong:
            for position, wishes in [(0, [value]), (2, [(GAP, 49), (D, Ratio(1, 2)), value, None]),
                                     (0, (value, value))]:
                for action in self.wishing(wishes):
                    self.assertEqual(told(action, InvalidWishes).position, position)

    def mending(self, mends):
        book = example_book()
        return [lambda: mended(book, mends), lambda: least_mends(book, [], mends),
                lambda: least_mends(book, [(GAP, 50)], mends)]

    def test_mends(self):
        for value in NO_LISTS + [Like(), example_book(), "bar"]:
            for action in self.mending(value):
                self.assertIsNone(told(action, InvalidMends).position)
        for value in NO_MENDS:
            for position, mends in [(0, [value]), (1, [ALLOWED[0], value, None]), (2, (ALLOWED[2], ALLOWED[1], value)),
                                    (3, ALLOWED[:3] + [value] * 9)]:
                for action in self.mending(mends):
                    self.assertEqual(told(action, InvalidMends).position, position)

    def test_twice_the_same_mend(self):
        for position, mends in [(1, [ALLOWED[0]] * 2), (2, [ALLOWED[0], ALLOWED[1], ("rest", "open")]),
                                (4, ALLOWED + ALLOWED[::-1]),
                                (2, (ALLOWED[2], ALLOWED[3], ("bar", "open", "shut"), None))]:
            for action in self.mending(mends):
                self.assertEqual(told(action, InvalidMends).position, position)

    def test_what_is_resting_or_barred_already(self):
        book = mended(example_book(), [("rest", "open"), ("bar", "open", "shut")])
        for mends in ([("rest", "open")], [("bar", "open", "shut")]):
            self.assertEqual(told(lambda: mended(book, mends), InvalidMends).position, 0)
        self.assertEqual(mended(book, [("rest", "shut"), ("bar", "shut", "open")]), mended(example_book(), ALLOWED))

    def test_forms(self):
        for value in NO_FORMS:
            self.assertIs(told(lambda: needed_arrows(example_book(), value), InvalidForm).value, value)
        for form, thing in STRANGE:
            self.assertEqual(told(lambda: needed_arrows(example_book(), form), UnknownThing).value, thing)

    def test_books_stay(self):
        self.assertEqual(SCENES["open"], {"d": (100, 2), "l": (100, 4)})


if __name__ == "__main__":
    unittest.main()
