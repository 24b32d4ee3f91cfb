import itertools
import unittest

from calledmidway.books import Book
from calledmidway.bounds import greatest, span
from calledmidway.drafts import Draft
from calledmidway.errors import (
    InvalidBook, InvalidForm, InvalidPlace, InvalidPlane, InvalidPoint, TooMany, UnknownThing,
)
from calledmidway.forms import Form
from calledmidway.planes import Plane, is_mixes, is_within, mixes, parting
from calledmidway.ratios import Ratio
from calledmidway.runs import Run
from tests.levels import SMALL, small
from tests.model import (
    GAP, SCENES, example_book, full_model, plain, plain_value, random_calls, random_form, random_generator,
    random_model,
)
from tests.oracle import hull, is_inside
from tests.test_corners import NO_BOOKS, STRANGE
from tests.values import NO_FORMS, NO_LISTS, NO_NUMBERS, Like, Other, told

BIG = 123456789012345678901234567890
TINY = Ratio(1, BIG)
D, L, V = Form.of("d"), Form.of("l"), Form.of("v")


def plane(first=D, second=L, book=None):
    return Plane(book or example_book(), first, second)


def plain_points(points):
    return [(plain(x), plain(y)) for x, y in points]


def still_book(points, things=("d", "l")):
    """A book in which just these points, and all between them, are seen: all things need the same time."""
    names = ["a", "b", "c", "e", "f", "g"][:len(points)]
    scenes = {name: {thing: (at, 1) for thing, at in zip(things, point)} for name, point in zip(names, points)}
    return Book(list(things), scenes, list(itertools.product(names, names)), names[0])


def square(low, high):
    """The plane of a square, with numbers of all sizes."""
    points = [(0, 0), (1, 0), (0, 1), (1, 1)]
    return Plane(still_book(points), D * (high - low) + low, L * (high - low) + low)


def pairs_of_planes(number, many):
    """Pairs of planes: of one book, of books with other things, within one another, and near that."""
    rng = random_generator(number)
    for _ in range(many):
        model, more = random_model(rng, 3, 4, 4), random_model(rng, 3, 4, 6)
        one = Plane(model.book(), random_form(rng, model.things), random_form(rng, model.things))
        other = Plane(more.book(), random_form(rng, more.things), random_form(rng, more.things))
        yield one, other
        yield other, one
        yield one, one
        yield one, Plane(one.book, one.first * 2, one.second * 2)
        yield one, Plane(one.book, one.second, one.first * 3)
        yield Plane(one.book, one.first, one.second + TINY), one
        yield one, Plane(other.book, other.first * 9, other.second * 9)
        yield Plane(one.book, Form(None, 1), Form(None, -1)), Plane(other.book, other.first * 3, other.second * 3)
        yield one, Plane(other.book, Form(None, 1), Form(None, -1))
        yield one, Plane(one.book, one.first, one.first)
        yield Plane(one.book, one.first, one.first), Plane(other.book, other.first * 2, other.first * 2)
        yield Plane(one.book, one.first, one.first * 2), square(Ratio(-BIG), Ratio(BIG))


class HullTest(unittest.TestCase):
    def assert_plane(self, book, first, second, expected=None):
        found = Plane(book, first, second)
        corners = found.corners()
        self.assertIs(corners.__class__, list)
        for corner in corners:
            self.assertIs(corner.__class__, tuple)
            self.assertEqual([number.__class__ for number in corner], [Ratio, Ratio])
            self.assertIn(corner, found)
            run = found.run_to(corner)
            self.assertEqual((run.__class__, run.book), (Run, book))
            self.assertEqual(found.point(run.end()), corner)
            self.assertEqual(Run(book, run.calls()), run)
        points = plain_points(corners)
        self.assertEqual(points, hull(points))
        for form, at in ((first, 0), (second, 1)):
            low, high = span(book, form)
            self.assertEqual((min(point[at] for point in points), max(point[at] for point in points)),
                             (plain(low), plain(high)))
        if expected is not None:
            self.assertEqual(points, expected)
        return found

    def test_against_all_rows_of_calls(self):
        seen = set()
        for parts in SMALL[:3]:
            for model, book, levels, forms in small(*parts):
                for first, second in ((forms[0], forms[1]), (forms[2], forms[3])):
                    places = [place for level in levels.seen for place in level]
                    points = [(plain_value(first, place), plain_value(second, place)) for place in places]
                    self.assert_plane(book, first, second, hull(points))
                    seen.add(min(5, len(hull(points))))
        self.assertEqual(seen, {1, 2, 3, 4, 5})

    def test_no_run_sees_a_point_outside(self):
        rng = random_generator(221)
        for _ in range(60):
            model = random_model(rng, 3)
            book, first, second = model.book(), random_form(rng, model.things), random_form(rng, model.things)
            found = self.assert_plane(book, first, second)
            for _ in range(3):
                run = Run(book, random_calls(rng, model, 8))
                for place in [*run.begun(), run.end(), run.at(run.lasts * Ratio(1, 3))]:
                    self.assertIn(found.point(place), found)

    def test_each_direction_has_its_greatest_value_at_a_corner(self):
        rng = random_generator(222)
        for _ in range(40):
            model = random_model(rng, 3)
            book, first, second = model.book(), random_form(rng, model.things), random_form(rng, model.things)
            corners = Plane(book, first, second).corners()
            for one, other in ((1, 0), (0, 1), (-1, 3), (2, 5), (-7, -2), (4, -9)):
                top = max(plain(x * one + y * other) for x, y in corners)
                self.assertEqual(plain(greatest(book, first * one + second * other)), top)

    def test_the_book_of_the_document(self):
        self.assert_plane(example_book(), D, L, [(0, 0), (50, 0), (100, 50), (100, 100)])
        self.assert_plane(example_book(), L, D, [(0, 0), (100, 100), (50, 100), (0, 50)])
        self.assert_plane(example_book(), GAP, D, [(0, 0), (50, 50), (50, 100), (0, 100)])
        self.assert_plane(example_book(), D + 1, L * Ratio(1, 2) - 3, [(1, -3), (51, -3), (101, 22), (101, 47)])

    def test_points_and_stretches(self):
        book = example_book()
        for first, second, expected in [
            (Form(), Form(), [(0, 0)]), (Form(None, 3), Form(None, -2), [(3, -2)]),
            (D, D, [(0, 0), (100, 100)]), (D, -D, [(0, 0), (100, -100)]), (-D, D, [(-100, 100), (0, 0)]),
            (D, Form(None, 7), [(0, 7), (100, 7)]), (Form(None, 7), -L, [(7, -100), (7, 0)]),
            (GAP, GAP * 2 + 1, [(0, 1), (50, 101)]),
            (Form(None, -1), D * Ratio(1, 3) - 1, [(-1, -1), (-1, Ratio(97, 3))]),
        ]:
            self.assert_plane(book, first, second, plain_points(expected))
        lone = Book(["d", "l"], {"a": {"d": (3, 1), "l": (-4, 2)}}, [("a", "a")], "a")
        self.assert_plane(lone, D, L, [(3, -4)])
        self.assert_plane(book - ("shut", "open"), D, L, [(0, 0)])
        self.assert_plane(still_book([(0, 0), (2, 2), (5, 5), (3, 3)]), D, L, [(0, 0), (5, 5)])

    def test_no_corner_between_two_others(self):
        for points, corners in [
            ([(0, 0), (4, 0), (2, 0), (4, 4), (0, 4), (2, 2)], [(0, 0), (4, 0), (4, 4), (0, 4)]),
            ([(0, 0), (4, 0), (0, 4), (2, 2), (1, 3), (0, 1)], [(0, 0), (4, 0), (0, 4)]),
            ([(0, 3), (0, 0), (0, 5), (7, 1)], [(0, 0), (7, 1), (0, 5)]),
            ([(0, -1), (1, 0), (0, 1), (-1, 0), (0, 0)], [(-1, 0), (0, -1), (1, 0), (0, 1)]),
        ]:
            self.assert_plane(still_book(points), D, L, corners)
            self.assert_plane(still_book(points[::-1]), D, L, corners)

    def test_resting_scenes_and_scenes_that_are_not_reached(self):
        self.assert_plane(example_book(["open"]), D, L, [(0, 0), (100, 50), (100, 100), (50, 0)][:1] + [
            (50, 0), (100, 50), (100, 100)])
        scenes = {**SCENES, "idle": {"d": (900, 1), "l": (-900, 9)}}
        book = Book(["d", "l"], scenes, example_book().arrows() + [("idle", "open")], "shut")
        self.assert_plane(book, D, L, [(0, 0), (50, 0), (100, 50), (100, 100)])
        rng = random_generator(223)
        for _ in range(40):
            model = random_model(rng, 2)
            model.resting = sorted(model.scenes)
            self.assert_plane(model.book(), random_form(rng, model.things), random_form(rng, model.things))

    def test_turned(self):
        rng = random_generator(224)
        for _ in range(25):
            model = random_model(rng, 3, 4)
            found = Plane(model.book(), random_form(rng, model.things), random_form(rng, model.things))
            turned = found.turned()
            self.assertIs(turned.__class__, Plane)
            self.assertEqual((turned.book, turned.first, turned.second), (found.book, found.second, found.first))
            self.assertEqual(plain_points(turned.corners()), hull([(y, x) for x, y in plain_points(found.corners())]))
            self.assertEqual(turned.turned(), found)
            self.assertEqual(turned.turned().corners(), found.corners())
            self.assertEqual(turned == found, found.first == found.second)

    def test_great_numbers(self):
        rng = random_generator(225)
        for things, many in ((3, 5), (2, 6), (1, 6)):
            model = full_model(rng, things, many)
            model.scenes = {
                scene: {thing: (rng.randint(-BIG, BIG), rng.randint(1, BIG)) for thing in model.things}
                for scene in model.scenes
            }
            forms = [Form({thing: Ratio(rng.randint(-BIG, BIG), rng.randint(1, BIG)) for thing in model.things},
                          rng.randint(-BIG, BIG)) for _ in range(2)]
            found = self.assert_plane(model.book(), *forms)
            self.assertTrue(is_within(found, found))
            self.assertTrue(is_mixes(found, found, mixes(found, found)))
            self.assertIsNone(parting(found, found))

    def test_the_most_scenes_and_things(self):
        rng = random_generator(226)
        for things, many in ((3, 5), (2, 6)):
            for _ in range(4):
                model = full_model(rng, things, many)
                forms = [Form({thing: rng.choice([-3, -1, 1, 2]) for thing in model.things}) for _ in range(2)]
                self.assert_plane(model.book(), *forms)

    def test_what_is_returned_may_be_changed(self):
        found = plane()
        found.corners().clear()
        found.run_to((0, 0)).calls().clear()
        self.assertEqual(len(found.corners()), 4)
        self.assertEqual(found.corners(), found.corners())
        self.assertIsNot(found.corners(), found.corners())

    def test_changed_books(self):
        book = example_book(["open"])
        before = Plane(book, D, L).corners()
        for changed in (book + ("open", "open"), book - ("open", "shut"), book * 3, book.moved("d", 2, 1),
                        book.moved("l", -1, 5)):
            anew = Draft.of_book(changed).made()
            self.assertEqual(Plane(changed, D, L).corners(), Plane(anew, D, L).corners())
            self.assertEqual(Plane(book, D, L).corners(), before)
        self.assertEqual(Plane(book * 3, D, L).corners(), before)


class PlaneTest(unittest.TestCase):
    def test_parts(self):
        found = plane(GAP + 1, L)
        self.assertEqual((found.book, found.first, found.second), (example_book(), GAP + 1, L))
        self.assertEqual(Plane(second=L, first=GAP + 1, book=example_book()), found)
        self.assertEqual(Plane.__module__, "calledmidway.planes")
        for name in ("point", "corners", "run_to", "turned", "__contains__", "__eq__", "book", "first", "second"):
            self.assertIn(name, vars(Plane))

    def test_equality(self):
        found = plane()
        self.assertTrue(found == plane() and not found != plane())
        for other in (plane(D, L + 1), plane(D + 1, L), plane(D, D), plane(L, L), plane(L, D),
                      plane(D, L, example_book(["open"])),
                      plane(D, L, example_book().moved("d", 1, 1)), None, 0, (example_book(), D, L), Other(),
                      example_book(), D, found.corners()):
            self.assertTrue(found != other and not found == other)
        # The corners are the same, but not the book.
        book = example_book()
        self.assertEqual(plane(book=book).corners(), plane(book=book * 2).corners())
        self.assertNotEqual(plane(book=book), plane(book=book * 2))

    def test_refused_books(self):
        for value in NO_BOOKS:
            self.assertIs(told(lambda: Plane(value, None, None), InvalidBook).value, value)
            self.assertIs(told(lambda: Plane(value, D, L), InvalidBook).value, value)

    def test_refused_forms(self):
        book = example_book()
        for value in NO_FORMS:
            self.assertIs(told(lambda: Plane(book, value, None), InvalidForm).value, value)
            self.assertIs(told(lambda: Plane(book, value, Form.of("x")), InvalidForm).value, value)
            self.assertIs(told(lambda: Plane(book, D, value), InvalidForm).value, value)
        for form, thing in STRANGE:
            self.assertEqual(told(lambda: Plane(book, form, None), UnknownThing).value, thing)
            self.assertEqual(told(lambda: Plane(book, form, Form.of("x")), UnknownThing).value, thing)
            self.assertEqual(told(lambda: Plane(book, D, form), UnknownThing).value, thing)

    def test_books_of_four_things(self):
        things = ["d", "l", "v", "w"]
        book = Book(things, {"a": {thing: (1, 1) for thing in things}}, [], "a")
        for first, second in ((D, L), (Form(), Form()), (Form.of(*things), D)):
            error = told(lambda: Plane(book, first, second), TooMany)
            self.assertEqual((error.what, error.limit), ("things", 3))
        self.assertIs(told(lambda: Plane(book, 1, L), InvalidForm).value, 1)
        self.assertEqual(told(lambda: Plane(book, D, Form.of("x")), UnknownThing).value, "x")
        three = Book(things[:3], {"a": {thing: (1, 1) for thing in things[:3]}}, [], "a")
        self.assertEqual(Plane(three, D, V).corners(), [(Ratio(1), Ratio(1))])

    def test_point(self):
        found = plane(D * 2 + 1, GAP)
        for place, point in [({"d": 3, "l": Ratio(1, 2)}, (Ratio(7), Ratio(5, 2))),
                             ({"d": 0, "l": 0, "x": 9}, (Ratio(1), Ratio(0)))]:
            got = found.point(place)
            self.assertEqual((got, got.__class__), (point, tuple))
            self.assertEqual([number.__class__ for number in got], [Ratio, Ratio])
            self.assertEqual(found.point(place=place), point)
        self.assertEqual(plane(Form(None, 2), Form()).point({}), (Ratio(2), Ratio(0)))
        self.assertEqual(plane(D, D).point({"d": 4}), (Ratio(4), Ratio(4)))

    def test_refused_places(self):
        found = plane()
        for value in [{"d": 1}, {"l": 1}, {}, {"d": 1, "l": True}, {"d": None, "l": 1}, {"d": 1, "l": 1, "X": 1},
                      {"d": 1, "l": 1, 3: 1}, {"d": 1, "l": 1, "x": "1"}, [("d", 1), ("l", 1)], None, 1, "dl", Other(),
                      D]:
            self.assertIs(told(lambda: found.point(value), InvalidPlace).value, value)
        for forms in ((D, Form()), (Form(), D)):
            self.assertEqual(told(lambda: plane(*forms).point({"l": 1}), InvalidPlace).value, {"l": 1})
        self.assertEqual(told(lambda: plane(Form(), Form()).point({"l": None}), InvalidPlace).value, {"l": None})

    def test_run_to(self):
        found = plane(D, L * Ratio(1, 3))
        for corner in [(0, 0), (Ratio(50), 0), (100, Ratio(50, 3)), (100, Ratio(100, 3)), (Ratio(0), Ratio(0))]:
            run = found.run_to(corner=corner)
            self.assertEqual(found.point(run.end()), tuple(Ratio(1) * number for number in corner))
            self.assertEqual(found.run_to(corner), run)
        for value in [(0, 1), (1, 0), (50, TINY), (50, 50), (75, Ratio(25, 3)), (0, 0, 0), (0,), (), [0, 0], (False, 0),
                      (0, False), (False, False), ("0", "0"), (None, 0), None, 0, "", {0: 0}, Other(), Like(),
                      (Like(), Like()), (100, 100), (Ratio(50) + TINY, 0), ((0, 0),), D, Ratio(0), b"\x00\x00"]:
            self.assertIs(told(lambda: found.run_to(value), InvalidPoint).value, value)

    def test_in(self):
        found = plane()
        for point in [(0, 0), (50, 0), (100, 50), (100, 100), (25, 0), (75, 25), (100, 75), (50, 50), (50, 25), (1, 1),
                      (Ratio(1, 3), Ratio(1, 3)), (Ratio(150, 2), Ratio(25)), (TINY, 0), (TINY, TINY), (50, TINY)]:
            self.assertIs(point in found, True, point)
            self.assertIs(point not in found, False)
            self.assertIs(point[::-1] in found.turned(), True)
        for point in [(0, TINY), (-TINY, 0), (0, -TINY), (-TINY, -TINY), (50, -TINY), (Ratio(50) + TINY, 0),
                      (75, Ratio(25) - TINY), (100, Ratio(50) - TINY), (Ratio(100) + TINY, 75),
                      (100, Ratio(100) + TINY), (50, Ratio(50) + TINY), (BIG, 0), (0, BIG), (-BIG, -BIG), (BIG, BIG),
                      (150, 150), (-1, -1), (25, -50)]:
            self.assertIs(point in found, False, point)
            self.assertIs(point[::-1] in found.turned(), False)
        for value in [(0, 0, 0), (0,), (), [0, 0], (False, 0), (0, False), (True, True), ("0", "0"), (None, None), None,
                      0, "", "00", {0: 0}, Other(), Like(), (Like(), Like()), (0, Like()), D, Ratio(0), example_book(),
                      b"00", {}]:
            self.assertIs(value in found, False)

    def test_in_points_and_stretches(self):
        point = plane(Form(None, 3), Form(None, -2))
        for value, expected in [((3, -2), True), ((Ratio(3), Ratio(-2)), True), ((3, -1), False),
                                ((Ratio(3) + TINY, -2), False), ((3, Ratio(-2) - TINY), False), ((0, 0), False),
                                ((6, -4), False), ((-2, 3), False)]:
            self.assertIs(value in point, expected)
        for x, y, first, second in [(100, 0, D, Form()), (0, 100, Form(), D), (100, 100, D, D),
                                    (100, -50, D, D * Ratio(-1, 2)), (-100, 50, -D, D * Ratio(1, 2))]:
            stretch = plane(first, second)
            for share, expected in [(Ratio(0), True), (Ratio(1), True), (Ratio(1, 3), True), (TINY, True),
                                    (-TINY, False), (Ratio(1) + TINY, False), (Ratio(2), False), (Ratio(-1), False)]:
                self.assertIs((x * share, y * share) in stretch, expected)
                self.assertIs((x * share + y * TINY, y * share - x * TINY) in stretch, False)
                self.assertIs((x * share - y * TINY, y * share + x * TINY) in stretch, False)

    def test_in_against_the_oracle(self):
        rng, seen = random_generator(227), set()
        for _ in range(60):
            model = random_model(rng, 3, 4)
            found = Plane(model.book(), random_form(rng, model.things), random_form(rng, model.things))
            corners = found.corners()
            points = [(rng.randint(-40, 40), rng.randint(-40, 40)) for _ in range(6)]
            for one, other in zip(corners, corners[1:] + corners[:1]):
                middle = ((one[0] + other[0]) * Ratio(1, 2), (one[1] + other[1]) * Ratio(1, 2))
                points += [middle] + [(middle[0] + x, middle[1] + y) for x in (TINY, -TINY) for y in (TINY, -TINY)]
            for x, y in points:
                expected = is_inside(plain_points(corners), (plain(x), plain(y)))
                self.assertIs((x, y) in found, expected)
                seen.add((min(3, len(corners)), expected))
        self.assertEqual(len(seen), 6)


class TwoPlanesTest(unittest.TestCase):
    def assert_mixes(self, one, other, found):
        corners, ends = plain_points(other.corners()), plain_points(one.corners())
        self.assertEqual((found.__class__, len(found)), (list, len(ends)))
        for end, row in zip(ends, found):
            self.assertEqual((row.__class__, len(row)), (list, len(corners)))
            self.assertLessEqual({number.__class__ for number in row}, {Ratio})
            shares = [plain(number) for number in row]
            self.assertGreaterEqual(min(shares), 0)
            self.assertEqual(sum(shares), 1)
            for at in (0, 1):
                self.assertEqual(sum(share * corner[at] for share, corner in zip(shares, corners)), end[at])
        self.assertIs(is_mixes(one, other, found), True)

    def test_there_are_mixes_just_if_there_is_no_parting(self):
        seen = set()
        for one, other in pairs_of_planes(231, 40):
            within = all(is_inside(plain_points(other.corners()), corner) for corner in plain_points(one.corners()))
            self.assertIs(is_within(one, other), within)
            found, parted = mixes(one, other), parting(one, other)
            if within:
                self.assert_mixes(one, other, found)
                self.assertIsNone(parted)
            else:
                self.assertIsNone(found)
                self.assertEqual((parted.__class__, [number.__class__ for number in parted]), (tuple, [int, int]))
                a, b = parted
                self.assertTrue(greatest(other.book, other.first * a + other.second * b).is_below(
                    greatest(one.book, one.first * a + one.second * b)))
            seen.add((min(3, len(one.corners())), min(3, len(other.corners())), within))
        self.assertLessEqual({(3, 3, True), (3, 3, False), (1, 3, True), (1, 3, False), (2, 3, True), (2, 3, False),
                              (2, 2, True), (2, 2, False), (1, 1, True), (1, 1, False), (3, 1, False), (2, 1, False),
                              (3, 2, False)}, seen)

    def test_points_and_stretches(self):
        stretch, point = plane(D, D * 2), plane(Form(None, 50), Form(None, 100))
        for x, y, within in [(0, 0, True), (100, 200, True), (50, 100, True), (1, 2, True),
                             (Ratio(1, 7), Ratio(2, 7), True), (-1, -2, False), (101, 202, False), (50, 101, False),
                             (50, 99, False), (0, 1, False), (Ratio(100) + TINY, Ratio(200) + TINY * 2, False)]:
            lone = plane(Form(None, x), Form(None, y))
            self.assertIs(is_within(lone, stretch), within)
            self.assertIs(is_within(lone.turned(), stretch.turned()), within)
            self.assertIs(mixes(lone, stretch) is not None, within)
            self.assertIs(parting(lone, stretch) is None, within)
            self.assertIs(is_within(lone, point), (x, y) == (50, 100))
            self.assertIs(parting(lone, point) is None, (x, y) == (50, 100))
            self.assertIs(is_within(stretch, lone), False)
            self.assertIsNotNone(parting(stretch, lone))
        self.assertEqual(mixes(point, stretch), [[Ratio(1, 2), Ratio(1, 2)]])
        self.assertEqual(mixes(point, point), [[Ratio(1)]])
        level = plane(D, Form(None, 3))
        self.assertEqual(mixes(plane(Form(None, 25), Form(None, 3)), level), [[Ratio(3, 4), Ratio(1, 4)]])
        self.assertIsNone(mixes(plane(Form(None, 25), Form(None, 4)), level))
        upright = plane(Form(None, 3), D)
        self.assertEqual(mixes(plane(Form(None, 3), Form(None, 25)), upright), [[Ratio(3, 4), Ratio(1, 4)]])
        self.assertIsNone(mixes(plane(Form(None, 3), Form(None, 101)), upright))
        self.assertIsNone(mixes(plane(Form(None, 4), Form(None, 25)), upright))

    def test_just_within_and_just_not(self):
        for low, high, within in [(0, 10, True), (1, 9, True), (-1, 9, False), (0, Ratio(10) + TINY, False),
                                  (-TINY, 5, False), (0, 1, True), (Ratio(10) - TINY, 10, True), (11, 12, False),
                                  (-BIG, BIG, False)]:
            one, other = square(Ratio(1) * low, Ratio(1) * high), square(Ratio(0), Ratio(10))
            self.assertIs(is_within(one, other), within)
            self.assertIs(is_within(one=one, other=other), within)
            self.assertIs(mixes(other=other, one=one) is not None, within)
            self.assertIs(parting(other=other, one=one) is None, within)

    def test_is_mixes(self):
        one = Plane(still_book([(1, 1), (2, 1), (2, 3)]), D, L)
        other = Plane(still_book([(0, 0, 5), (4, 0, 5), (4, 4, 5), (0, 4, 5)], ("d", "v", "w")), D, V)
        half, quarter, none = Ratio(1, 2), Ratio(1, 4), Ratio(0)
        # The corners of one are (1, 1), (2, 1), (2, 3), those of other (0, 0), (4, 0), (4, 4), (0, 4).
        right = [[Ratio(3, 4), 0, quarter, none], [half, quarter, quarter, 0], [0, quarter, quarter, half]]
        self.assertIs(is_mixes(one, other, right), True)
        self.assertIs(is_mixes(value=tuple(map(tuple, right)), other=other, one=one), True)
        self.assertIs(is_mixes(one, other, [[half, quarter, 0, quarter], *right[1:]]), True)
        self.assertIs(is_mixes(other, one, right), False)
        self.assertIs(is_mixes(one.turned(), other, right), False)
        self.assertIs(is_mixes(one, other, mixes(one, other)), True)
        for at, row in itertools.product(range(3), range(4)):
            for more in (TINY, -TINY, 1, -1, quarter):
                spoilt = [list(part) for part in right]
                spoilt[at][row] = Ratio(0) + spoilt[at][row] + more
                self.assertIs(is_mixes(one, other, spoilt), False)
                # The sum is 1 again, but the point is another one.
                spoilt[at][row - 1] = Ratio(0) + spoilt[at][row - 1] - more
                self.assertIs(is_mixes(one, other, spoilt), False)
            for value in NO_NUMBERS:
                spoilt = [list(part) for part in right]
                spoilt[at][row] = value
                self.assertIs(is_mixes(one, other, spoilt), False)
        for spoilt in [right[:2], right + right[:1], right[::-1], [right[0]] * 3, [row[:3] for row in right],
                       [right[0][:3]] + right[1:], [row + [0] for row in right], [right[0] + [none]] + right[1:], [],
                       [[]] * 3, [None] * 3, [dict(enumerate(row)) for row in right], [right[0], right[1], None],
                       [[Ratio(1), 0, 0, 0]] * 3]:
            self.assertIs(is_mixes(one, other, spoilt), False)
        for value in NO_LISTS + [Like(), dict(enumerate(right)), one, "abc"]:
            self.assertIs(is_mixes(one, other, value), False)

    def test_is_mixes_with_numbers_below_0(self):
        # The sums are right, but a number is below 0.
        one = Plane(still_book([(0, 0)]), D, L)
        other = Plane(still_book([(0, 0), (2, 0), (2, 2), (0, 2)]), D, L)
        self.assertIs(is_mixes(one, other, [[1, 0, 0, 0]]), True)
        self.assertIs(is_mixes(one, other, [[True, False, False, False]]), False)
        self.assertIs(is_mixes(one, other, [[2, -1, 1, -1]]), False)
        self.assertIs(is_mixes(one, other, [[Ratio(1) + TINY, -TINY, TINY, -TINY]]), False)
        self.assertIs(is_mixes(one, other, [[0, 0, 0, 0]]), False)
        self.assertIs(is_mixes(one, other, [[2, 0, 0, 0]]), False)
        self.assertIs(is_mixes(one, other, [[Ratio(1, 2), 0, 0, 0]]), False)
        outside = Plane(still_book([(3, 0)]), D, L)
        self.assertIs(is_mixes(outside, other, [[Ratio(-1, 2), Ratio(3, 2), 0, 0]]), False)

    def test_what_is_returned_may_be_changed(self):
        one, other = square(Ratio(1), Ratio(2)), square(Ratio(0), Ratio(10))
        found = mixes(one, other)
        self.assertEqual(len({id(row) for row in found}), 4)
        found[0].clear()
        found.clear()
        self.assert_mixes(one, other, mixes(one, other))
        self.assertEqual(mixes(one, other), mixes(one, other))
        self.assertEqual(parting(other, one), parting(other, one))

    def test_refused_planes(self):
        right = plane()
        for value in NO_LISTS + [example_book(), GAP, (example_book(), D, L), [right], (right,), right.corners(),
                                 Like()]:
            for action in (is_within, mixes, parting, lambda one, other: is_mixes(one, other, None)):
                self.assertIs(told(lambda: action(value, right), InvalidPlane).value, value)
                self.assertIs(told(lambda: action(right, value), InvalidPlane).value, value)
                self.assertIs(told(lambda: action(value, None), InvalidPlane).value, value)

    def test_great_numbers(self):
        one, other = square(Ratio(-BIG, 7), Ratio(BIG, 7)), square(Ratio(-BIG, 7) - TINY, Ratio(BIG, 7) + TINY)
        self.assertIs(is_within(one, other), True)
        self.assertIs(is_within(other, one), False)
        self.assert_mixes(one, other, mixes(one, other))
        a, b = parting(other, one)
        self.assertTrue(greatest(one.book, one.first * a + one.second * b).is_below(
            greatest(other.book, other.first * a + other.second * b)))

    def test_where_they_are_defined(self):
        for function in (is_within, mixes, is_mixes, parting):
            self.assertEqual(function.__module__, "calledmidway.planes")


if __name__ == "__main__":
    unittest.main()
