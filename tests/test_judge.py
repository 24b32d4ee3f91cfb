import itertools
import unittest

from calledmidway.bounds import greatest, peak
from calledmidway.errors import InvalidClaim
from calledmidway.forms import Form
from calledmidway.judge import KINDS_OF_CLAIMS, is_claim, is_paper, paper
from calledmidway.mends import mended
from calledmidway.planes import Plane, is_within, parting
from calledmidway.ratios import Ratio
from calledmidway.runs import Run
from calledmidway.shares import KINDS, ShareRun
from calledmidway.tables import bound_table
from calledmidway.ways import greatest_by, peak_by, table_by
from tests.model import GAP, example_book, full_model, random_form, random_generator, random_model
from tests.test_corners import STRANGE
from tests.test_mends import ALLOWED, NO_MENDS, some_mends
from tests.test_planes import pairs_of_planes, square, still_book
from tests.test_shares import NO_KINDS
from tests.values import NO_FORMS, NO_LISTS, NO_NUMBERS, Like, Other, told

BIG = 123456789012345678901234567890
TINY = Ratio(1, BIG)
D, L = Form.of("d"), Form.of("l")
WORDS = ("at most", "more than", "at most by", "more than by", "within", "beyond", "mended", "not mended")
NO_PAPERS = NO_LISTS + [[], (), [()], ((),), [[]], (None, None), [None], ("open",), Like(), (Like(), Like()), [Like()],
                        example_book(), Form(None, 3), Plane(example_book(), D, L), (1, 2, 3, 4), (0, None), [0, None]]


def book_twin(book):
    """An equal book that is another object."""
    return book * 1


def example_claims():
    book, gap = example_book(), GAP
    inner, outer = square(Ratio(1), Ratio(2)), square(Ratio(0), Ratio(3))
    return [
        ("at most", book, gap, 50), ("at most", book, gap, 49), ("more than", book, gap, 49),
        ("more than", book, gap, 50),
        ("at most by", book, gap, 100, "one"), ("at most by", book, gap, 99, "own"),
        ("more than by", book, gap, 99, "one"), ("more than by", book, gap, 50, "even"),
        ("within", inner, outer), ("within", outer, inner), ("beyond", outer, inner), ("beyond", inner, outer),
        ("mended", book, [(gap, 40), (D, 100)], [("bar", "shut", "open")]), ("mended", book, [(gap, 40)], []),
        ("not mended", book, [(gap, 40)], [("rest", "open")]), ("not mended", book, [(gap, 50)], []),
    ]


class ClaimTest(unittest.TestCase):
    def test_kinds_of_claims(self):
        self.assertEqual((KINDS_OF_CLAIMS, KINDS_OF_CLAIMS.__class__), (WORDS, tuple))

    def test_claims(self):
        for claim in example_claims():
            self.assertIs(is_claim(claim), True)
            self.assertIs(is_claim(value=claim), True)
        book = example_book()
        for claim in [
            ("at most", book, Form(), Ratio(1, 2)), ("more than", book, Form(None, 3), -BIG),
            ("mended", book, [], []), ("mended", book, (), ()), ("not mended", book, ((GAP, 3),), tuple(ALLOWED)),
            ("not mended", book, [(GAP, Ratio(3)), (GAP, 3)], ALLOWED + []), ("mended", book, [(GAP, 1)] * 9, ALLOWED),
            ("at most by", book, GAP, 0, "even"), ("more than by", book, Form(), 0, "own"),
        ]:
            self.assertIs(is_claim(claim), True, claim)

    def wrong_claims(self):
        book, plane = example_book(), square(Ratio(0), Ratio(1))
        rows = [("at most", book, GAP), ("at most", book, GAP, 50, "even"), ("at most by", book, GAP, 50),
                ("at most",), (),
                ("at most by", book, GAP, 50, "even", 1), ("within", plane), ("within", plane, plane, plane),
                ("beyond",),
                ("mended", book, []), ("mended", book, [], [], []), ("At most", book, GAP, 50),
                ("at  most", book, GAP, 50),
                ("at", "most", book, GAP, 50), ("less than", book, GAP, 50), (None, book, GAP, 50),
                (Like(), book, GAP, 50),
                (b"at most", book, GAP, 50), ((book,), book, GAP, 50), ([], book, GAP, 50), (0, book, GAP, 50),
                ("", book, GAP, 50),
                ["at most", book, GAP, 50], [("at most", book, GAP, 50)], (("at most", book, GAP, 50),), "at most",
                ("at most", GAP, book, 50), ("within", book, plane), ("beyond", plane, book), ("beyond", None, None)]
        for word in WORDS[:2]:
            rows += [(word, value, GAP, 50) for value in NO_LISTS + [Like(), [book]]]
            rows += [(word, book, value, 50) for value in NO_FORMS + [Like()] + [form for form, _ in STRANGE]]
            rows += [(word, book, GAP, value) for value in NO_NUMBERS + [Like()]]
        for word in WORDS[2:4]:
            rows += [(word, value, GAP, 50, "one") for value in NO_LISTS + [Like()]]
            rows += [(word, book, value, 50, "one") for value in NO_FORMS + [Like()] + [form for form, _ in STRANGE]]
            rows += [(word, book, GAP, value, "one") for value in NO_NUMBERS + [Like()]]
            rows += [(word, book, GAP, 50, value) for value in NO_KINDS]
        for word in WORDS[4:6]:
            rows += [(word, value, plane) for value in NO_LISTS + [Like(), book, (book, D, L)]]
            rows += [(word, plane, value) for value in NO_LISTS + [Like(), book, (book, D, L)]]
        for word in WORDS[6:]:
            rows += [(word, value, [], []) for value in NO_LISTS + [Like(), plane]]
            rows += [(word, book, value, []) for value in NO_LISTS + [Like(), book, [None], [(GAP,)], [[GAP, 1]],
                                                                      (GAP, 1)]]
            rows += [(word, book, [(GAP, 1), (GAP, value)], []) for value in NO_NUMBERS]
            rows += [(word, book, [(value, 1)], []) for value in NO_FORMS + [form for form, _ in STRANGE]]
            rows += [(word, book, [], value) for value in NO_LISTS + [Like(), book, ALLOWED * 2, ALLOWED[:1] * 2]]
            rows += [(word, book, [], [ALLOWED[0], value]) for value in NO_MENDS]
            rows += [(word, example_book(["open"]), [], [("rest", "open")])]
        return rows

    def test_no_claims(self):
        for value in self.wrong_claims() + NO_LISTS + [Like(), Other(), WORDS, list(WORDS)]:
            self.assertIs(is_claim(value), False, value)
            self.assertIs(told(lambda: paper(value), InvalidClaim).value, value)
            self.assertIs(told(lambda: is_paper(value, None), InvalidClaim).value, value)
            self.assertIs(told(lambda: is_paper(value, []), InvalidClaim).value, value)

    def test_hulls_with_fewer_than_three_corners(self):
        book, wide = example_book(), square(Ratio(0), Ratio(1))
        for first, second, corners in [(D, L, 4), (D, D, 2), (Form(None, 1), D, 2), (Form(), Form(None, 3), 1),
                                       (GAP, D + 2, 4)]:
            plane = Plane(book, first, second)
            self.assertEqual(len(plane.corners()), corners)
            self.assertIs(is_claim(("within", wide, plane)), corners > 2)
            self.assertIs(is_claim(("within", plane, wide)), True)
            self.assertIs(is_claim(("within", plane, plane)), corners > 2)
            self.assertIs(is_claim(("beyond", wide, plane)), True)
            self.assertIs(is_claim(("beyond", plane, wide)), True)
            if corners < 3:
                claim = ("within", wide, plane)
                self.assertIs(told(lambda: paper(claim), InvalidClaim).value, claim)
                self.assertIs(told(lambda: is_paper(claim, ([], [])), InvalidClaim).value, claim)
        three = Plane(still_book([(0, 0), (1, 0), (0, 1)]), D, L)
        self.assertIs(is_claim(("within", wide, three)), True)

    def test_where_they_are_defined(self):
        for function in (is_claim, is_paper, paper):
            self.assertEqual(function.__module__, "calledmidway.judge")


class PaperCase(unittest.TestCase):
    def assert_paper(self, claim, true):
        """There is a paper just for a true claim, and what is no paper at all is none."""
        found = paper(claim)
        if not true:
            self.assertIsNone(found)
        else:
            self.assertIs(is_paper(claim, found), True)
            self.assertIs(is_paper(value=paper(claim=claim), claim=claim), True)
            self.assertEqual(paper(claim), found)
        for value in NO_PAPERS:
            # An empty table is a paper for a form without things, and no tables are one if there are no wishes.
            if value not in ([], ()) or value.__class__ is Like:
                self.assertIs(is_paper(claim, value), False, (claim, value))
        return found


class PaperTest(PaperCase):
    def test_each_claim(self):
        for at, claim in enumerate(example_claims()):
            self.assert_paper(claim, at % 2 == 0)
        self.assert_paper(("at most by", example_book(), GAP, 99, "own"), False)

    def bounded(self, number, many):
        rng = random_generator(number)
        for at in range(many):
            model = full_model(rng, 3, 3) if at == 0 else random_model(rng, 4, 4)
            book, form = model.book(), random_form(rng, model.things)
            kind = rng.choice(KINDS)
            yield rng, model, book, form, kind

    def test_bounds(self):
        for rng, model, book, form, kind in self.bounded(601, 40):
            for value, more in ((greatest(book, form), ()), (greatest_by(book, form, kind), (kind,))):
                words = ("at most by", "more than by") if more else ("at most", "more than")
                for bound, kept in ((value, True), (value + TINY, True), (value - TINY, False), (value - 3, False)):
                    self.assert_paper((words[0], book, form, bound, *more), kept)
                    self.assert_paper((words[1], book, form, bound, *more), not kept)

    def test_at_most(self):
        for rng, model, book, form, kind in self.bounded(602, 25):
            value, top = greatest(book, form), greatest_by(book, form, kind)
            table, by = bound_table(book, form, value), table_by(book, form, top, kind)
            for claim, rows in ((("at most", book, form, value), table), (("at most by", book, form, top, kind), by)):
                self.assertIs(is_paper(claim, rows), True)
                self.assertIs(is_paper(claim, tuple(rows)), True)
                self.assertIs(is_paper((claim[0], book_twin(book), *claim[2:]), rows), True)
                self.assertIs(is_paper((*claim[:3], claim[3] - TINY, *claim[4:]), rows), False)
                self.assertIs(is_paper((*claim[:2], form + 1, *claim[3:]), rows), False)
                self.assertIs(is_paper(claim, rows + rows[:1]), len(rows) == 0)
                self.assertIs(is_paper(claim, rows + [None]), False)
                self.assertIs(is_paper(claim, peak(book, form)), False)
        book = example_book()
        claim = ("at most", book, GAP, 50)
        rows = paper(claim)
        for at, (scene, form, number) in enumerate(rows):
            for row in ((scene, form, True), [scene, form, number], (scene, form), (scene, form + 1, number)):
                self.assertIs(is_paper(claim, rows[:at] + [row] + rows[at + 1:]), False)
        self.assertIs(is_paper(claim, [(scene, form, number - 60) for scene, form, number in rows]), False)
        # Tables of other forms, bounds and kinds.
        self.assertIs(is_paper(claim, bound_table(book, D, 100)), False)
        self.assertIs(is_paper(claim, bound_table(book, GAP, 50)), True)
        self.assertIs(is_paper(("at most by", book, GAP, 100, "own"), bound_table(book, GAP, 50)), False)
        self.assertIs(is_paper(("at most by", book, GAP, 50, "even"), bound_table(book, GAP, 50)), True)
        self.assertIs(is_paper(("at most", book, Form(None, 3), 3), []), True)
        self.assertIs(is_paper(("at most by", book, Form(None, 3), 2, "one"), []), False)

    def test_more_than(self):
        book = example_book()
        claim = ("more than", book, GAP, 49)
        for calls, right in [([("open", 2)], True), ([("open", Ratio(99, 50))], True),
                             ([("open", Ratio(49, 25))], False),
                             ([("open", Ratio(49, 25) + TINY)], True), ([("open", 3)], False), ([], False),
                             ([("open", 2), ("shut", 0)], True), ([("open", 2), ("shut", 1)], True),
                             ([("open", 2), ("shut", 3)], False),
                             ([("open", 4), ("shut", 2)], True),
                             ([("open", 9), ("shut", 0), ("open", 1), ("shut", 2)], True)]:
            self.assertIs(is_paper(claim, Run(book, calls)), right, calls)
            self.assertIs(is_paper(claim, Run(example_book(), calls)), right)
            self.assertIs(is_paper(claim, calls), False)
            self.assertIs(is_paper(claim, (Run(book, calls),)), False)
        run = paper(claim)
        # The same calls of other books, and runs of other kinds.
        for other in (book * 1, book + ("open", "open"), book * 2, example_book(["open"]), book.moved("d", 2, 0)):
            self.assertIs(is_paper(claim, Run(other, [("open", 2)])), other == book)
            self.assertIs(is_paper(("more than", other, GAP, 0), Run(other, [("open", 2)])), True)
        self.assertIs(is_paper(claim, ShareRun.of_run(run, "even")), False)
        self.assertIs(is_paper(("more than", book, GAP + 1, 50), run), True)
        self.assertIs(is_paper(("more than", book, GAP, 50), run), False)
        self.assertIs(is_paper(("more than", book, Form(None, 3), Ratio(3) - TINY), Run(book)), True)
        self.assertIs(is_paper(("more than", book, Form(None, 3), 3), Run(book)), False)

    def test_more_than_by(self):
        book = example_book()
        for kind in KINDS:
            claim = ("more than by", book, GAP, 40, kind)
            run = paper(claim)
            self.assertEqual((run.__class__, run.book, run.kind), (ShareRun, book, kind))
            for other in KINDS:
                same = ShareRun.of_run(Run(book, [("open", 2)]), other)
                self.assertIs(is_paper(claim, same), other == kind)
                twin = ShareRun.of_run(Run(example_book(), [("open", 2)]), other)
                self.assertIs(is_paper(claim, twin), other == kind)
                changed = ShareRun.of_run(Run(book + ("open", "open"), [("open", 2)]), other)
                self.assertIs(is_paper(claim, changed), False)
            for calls, right in [([], False), ([("open", {"d": 1, "l": Ratio(3, 5)})], False),
                                 ([("open", {"d": 1, "l": Ratio(1, 2)})], True), ([("open", {"d": 0, "l": 0})], False)]:
                self.assertIs(is_paper(claim, ShareRun(book, kind, calls)), right)
                self.assertIs(is_paper(claim, calls), False)
            self.assertIs(is_paper(claim, Run(book, [("open", 2)])), False)
        claim = ("more than by", book, GAP, 99, "one")
        self.assertIs(is_paper(claim, ShareRun(book, "one", [("open", {"d": 1, "l": 0})])), True)
        self.assertIs(is_paper(claim, ShareRun(book, "own", [("open", {"d": 1, "l": 0})])), False)
        self.assertIs(is_paper(("more than by", book, GAP, 100, "one"), peak_by(book, GAP, "one")), False)


class PlanesPaperTest(PaperCase):
    def setUp(self):
        # The plane one is the square from 1 to 2; the points of other are those of the square from 0 to 3.
        self.one, self.other = square(Ratio(1), Ratio(2)), square(Ratio(0), Ratio(3))
        self.claim = ("within", self.one, self.other)

    def test_within_and_beyond(self):
        seen = set()
        for one, other in pairs_of_planes(611, 14):
            within = is_within(one, other)
            if len(other.corners()) > 2:
                found = self.assert_paper(("within", one, other), within)
                if within:
                    runs, tables = found
                    self.assertEqual([row.__class__ for row in (found, runs, tables)], [tuple, list, list])
                    self.assertEqual(len({id(table) for table in tables}), len(tables))
                    self.assertIs(is_paper(("within", one, other), [runs, tables]), False)
                    self.assertIs(is_paper(("within", one, other), (tuple(runs), tuple(map(tuple, tables)))), True)
                seen.add(("within", within))
            found = self.assert_paper(("beyond", one, other), not within)
            if not within:
                self.assertEqual([part.__class__ for part in found], [int, int, Run, list])
                self.assertIs(is_paper(("beyond", one, other), list(found)), False)
            seen.add(("beyond", within))
        self.assertEqual(len(seen), 4)

    def point_run(self, x, y):
        """A run of the book of other to any point of its square."""
        book = self.other.book
        x, y = Ratio(1) * x * Ratio(1, 3), Ratio(1) * y * Ratio(1, 3)
        low, high, corner = (y, x, "b") if y.is_below(x) else (x, y, "c")
        # From (0, 0) towards a corner beside, then towards (1, 1): (t + (1 - t) s, s) with s = low.
        if low == Ratio(1):
            return Run(book, [("e", 1)])
        way = (high - low).over(1 - low)
        run = Run(book, [("a", 1), (corner, way), ("e", low)])
        self.assertEqual(self.other.point(run.end()), (x * 3, y * 3))
        return run

    def tables(self, points, one=None):
        one = one or self.one
        rows = []
        for (x, y), (u, v) in zip(points, points[1:] + points[:1]):
            x, y, u, v = Ratio(1) * x, Ratio(1) * y, Ratio(1) * u, Ratio(1) * v
            form = one.first * (v - y) + one.second * (x - u)
            rows.append(bound_table(one.book, form, (v - y) * x + (x - u) * y))
        return rows

    def assert_within(self, points, right, claim=None):
        claim = claim or self.claim
        runs = [self.point_run(x, y) for x, y in points]
        tables = self.tables(points, claim[1])
        self.assertIs(is_paper(claim, (runs, tables)), right, points)
        return runs, tables

    def test_points_around(self):
        half = Ratio(1, 2)
        for points, right in [
            ([(0, 0), (3, 0), (3, 3), (0, 3)], True), ([(3, 3), (0, 3), (0, 0), (3, 0)], True),
            ([(1, 1), (2, 1), (2, 2), (1, 2)], True), ([(half, half), (3, 0), (3, 3), (0, 3)], True),
            # Further points and fewer points.
            ([(1, 0), (3, 0), (3, 2), (2, 3), (0, 3), (0, 1)], True), ([(0, 1), (3, 0), (3, 3), (0, 3)], True),
            ([(0, 0), (2, 0), (3, 1), (3, 2), (2, 3), (1, 3), (0, 2)], True), ([(0, 1), (3, 0), (2, 3)], True),
            ([(0, 1), (3, 0), (2, 3 - TINY)], False),
            ([(0, 0), (3, 0), (0, 3)], False), ([(0, 0), (3, 0), (3, 3)], False),
            # A point on a side, the same point twice, points that stand clockwise or across one another.
            ([(0, 0), (1, 0), (3, 0), (3, 3), (0, 3)], False), ([(0, 0), (3, 0), (3, 3), (0, 3), (0, 2)], False),
            ([(0, 0), (0, 0), (3, 0), (3, 3), (0, 3)], False), ([(0, 0), (3, 0), (3, 3), (0, 3), (0, 0)], False),
            ([(0, 3), (3, 3), (3, 0), (0, 0)], False), ([(0, 0), (3, 3), (3, 0), (0, 3)], False),
            ([(0, 0), (3, 0), (3, 3), (0, 3)] * 2, False), ([(0, 0), (3, 0), (2, 2), (0, 3)], True),
            ([(0, 0), (3, 0), (3, 3), (1, 2), (0, 3)], False),
            # Points that leave out a part of the plane one.
            ([(1, 1), (2, 1), (2, 2)], False), ([(1, 1), (2, 1), (2, Ratio(2) - TINY), (1, 2)], False),
            ([(1 + TINY, 1), (3, 0), (3, 3), (1, 2)], False),
        ]:
            self.assert_within(points, right)

    def test_all_other_points_lie_to_the_left(self):
        # From each point to the next one the one behind it lies to the left, but not all others do: a star.
        star = [(0, 1), (3, 1), (Ratio(1, 2), 3), (Ratio(3, 2), 0), (Ratio(5, 2), 3)]
        claim = ("within", Plane(example_book(), Form(None, Ratio(3, 2)), Form(None, Ratio(3, 2))), self.other)
        _, tables = self.assert_within(star, False, claim)
        self.assertNotIn(None, tables)
        self.assert_within(star[::-1], False, claim)
        self.assert_within([(Ratio(3, 2), 0), (3, 1), (Ratio(5, 2), 3), (Ratio(1, 2), 3), (0, 1)], True, claim)

    def test_fewer_than_three_points(self):
        claim = ("within", Plane(example_book(), Form(None, 1), Form(None, 1)), self.other)
        for points in ([], [(1, 1)], [(0, 0), (3, 3)], [(1, 1), (1, 1), (1, 1)], [(0, 0), (1, 1), (3, 3)]):
            self.assert_within(points, False, claim)
        self.assert_within([(0, 0), (3, 0), (0, 3)], True, claim)
        self.assert_within([(1, 1), (3, 0), (0, 3)], True, claim)
        # The point lies on a side.
        self.assert_within([(0, 0), (2, 0), (0, 2)], True, claim)
        self.assert_within([(0, 0), (2 - TINY, 0), (0, 2)], False, claim)

    def test_spoilt_papers_for_within(self):
        points = [(0, 0), (3, 0), (3, 3), (0, 3)]
        runs, tables = self.assert_within(points, True)
        book = self.other.book
        for value in [
            (runs, tables[1:] + tables[:1]), (runs[1:] + runs[:1], tables), (runs, tables[:3]), (runs[:3], tables[:3]),
            (runs[:3], tables),
            (runs, tables + tables[:1]), (runs + runs[:1], tables + tables[:1]), (tables, runs), (runs,),
            (runs, tables, []), (runs, None), (None, tables),
            (runs, []), ([], tables), (runs, [None] * 4), (runs, [[]] * 4), ([None] * 4, tables), (points, tables),
            (runs, tables[0]),
            ([run.calls() for run in runs], tables), ([run.end() for run in runs], tables),
            (dict(enumerate(runs)), tables),
            (runs, dict(enumerate(tables))), [runs, tables], {"runs": runs, "tables": tables}, runs, tables,
            ([Run(book * 2, run.calls()) for run in runs], tables),
            (runs[:3] + [Run(self.one.book.moved("d", 2, 0), [])], tables),
            ([ShareRun.of_run(run, "even") for run in runs], tables), (runs[:3] + [None], tables),
            (runs, tables[:3] + [()]),
        ]:
            self.assertIs(is_paper(self.claim, value), False)
        self.assertIs(is_paper(self.claim, (tuple(runs), tuple(tables))), True)
        twins = [Run(book * 1, run.calls()) for run in runs]
        self.assertIs(is_paper(self.claim, (twins, tables)), True)
        self.assertIs(is_paper(self.claim, (runs[1:] + runs[:1], tables[1:] + tables[:1])), True)
        for at in range(4):
            scene, form, number = tables[at][0]
            for row in ((scene, form, number - BIG), (scene, form, True), (scene, form)):
                changed = tables[:at] + [[row, *tables[at][1:]]] + tables[at + 1:]
                self.assertIs(is_paper(self.claim, (runs, changed)), False)
        # The paper is one for this claim alone.
        for claim in (("within", self.other, self.one), ("within", self.other, square(Ratio(0), Ratio(4))),
                      ("beyond", self.one, self.other),
                      ("within", square(Ratio(-1), Ratio(4)), self.other)):
            self.assertIs(is_paper(claim, (runs, tables)), False)
        bigger = Plane(self.other.book, self.other.first * 2 - 1, self.other.second * 2 - 1)
        self.assertIs(is_paper(("within", self.one, bigger), (runs, tables)), False)

    def test_beyond_by_hand(self):
        one, other = square(Ratio(0), Ratio(3)), square(Ratio(1), Ratio(2))
        claim = ("beyond", one, other)
        ends = {(x, y): one.run_to((x * 3, y * 3)) for x in (0, 1) for y in (0, 1)}
        def table(a, b, bound):
            return bound_table(other.book, other.first * a + other.second * b, bound)
        for a, b, corner, bound, right in [
            (1, 0, (1, 0), 2, True), (1, 0, (1, 1), 2, True), (1, 0, (0, 1), 2, False), (5, 0, (1, 1), 10, True),
            (1, 1, (1, 1), 4, True),
            (1, 1, (1, 1), Ratio(11, 2), True), (1, 1, (1, 1), 6, None), (1, 1, (1, 0), 4, False),
            (-1, 0, (0, 0), -1, True), (-1, -1, (0, 0), -2, True),
            (-1, 1, (0, 1), 1, True), (0, 0, (1, 1), 0, False), (1, -1, (1, 1), 1, False), (2, 1, (1, 0), 6, False),
            (4, 1, (1, 0), 10, True),
            (BIG, 1, (1, 0), 3 * BIG, None),
        ]:
            rows = table(a, b, bound)
            if right is not None:
                self.assertIs(is_paper(claim, (a, b, ends[corner], rows)), right, (a, b, corner, bound))
            self.assertIs(is_paper(claim, (a, b, ends[corner], rows, 1)), False)
            self.assertIs(is_paper(claim, [a, b, ends[corner], rows]), False)
        rows, run = table(1, 0, 2), ends[1, 0]
        for value in [(True, 0, run, rows), (1, False, run, rows), (Ratio(1), 0, run, rows), (1, Ratio(0), run, rows),
                      (1, 0, run, None),
                      (1, 0, run, []), (1, 0, run.calls(), rows), (1, 0, None, rows), (0, 1, run, rows),
                      (1, 0, rows, run), (1, 0, run),
                      (1, 1, run, rows), (2, 0, run, rows), (-1, 0, run, rows), ("1", "0", run, rows),
                      (None, None, run, rows), (1, 0, run, rows * 2),
                      (1, 0, Run(other.book * 2, run.calls()), rows), (1, 0, ShareRun.of_run(run, "even"), rows),
                      (1, 0, run.end(), rows),
                      (1, 0, run, [(scene, form, number + 5) for scene, form, number in rows]),
                      (1, 0, run, [(scene, form, number - TINY) for scene, form, number in rows])]:
            self.assertIs(is_paper(claim, value), False, value[:2])
        self.assertIs(is_paper(claim, (1, 0, Run(one.book * 1, run.calls()), tuple(rows))), True)
        # A table for a bound that is less than the sum, though not the least one.
        looser = [(scene, form, number + Ratio(1, 4)) for scene, form, number in rows]
        self.assertIs(is_paper(claim, (1, 0, run, looser)), True)
        self.assertIs(is_paper(("beyond", other, one), (1, 0, run, rows)), False)
        self.assertIsNotNone(parting(one, other))

    def test_beyond_points_and_stretches(self):
        book = example_book()
        point, stretch = Plane(book, Form(None, 1), Form(None, 2)), Plane(book, D, D * 2)
        for one, other, within in [(point, stretch, True), (stretch, point, False), (point, point, True),
                                   (stretch, stretch, True),
                                   (Plane(book, D, D * 2 + TINY), stretch, False),
                                   (Plane(book, Form(None, 1), Form(None, 3)), point, False)]:
            self.assert_paper(("beyond", one, other), not within)
        # The sum of the forms of other has no live things.
        claim = ("beyond", stretch, point)
        self.assertIs(is_paper(claim, (1, 0, peak(book, D), [])), True)
        self.assertIs(is_paper(claim, (1, 0, Run(book), [])), False)
        self.assertIs(is_paper(claim, (-1, 0, Run(book), [])), True)
        self.assertIs(is_paper(claim, (1, 0, peak(book, D), [("open", D, 3)])), False)


class MendsPaperTest(PaperCase):
    def test_against_mended_books(self):
        rng, seen = random_generator(621), set()
        for _ in range(50):
            model = random_model(rng, 3, 4)
            book, mends, wishes = model.book(), some_mends(rng, model, 3), []
            for _ in range(rng.randint(0, 3)):
                form = random_form(rng, model.things)
                value = greatest(rng.choice([book, mended(book, mends)]), form)
                wishes.append((form, value - rng.choice([0, 0, 0, TINY])))
            kept = all(not (Ratio(0) + bound).is_below(greatest(mended(book, mends), form)) for form, bound in wishes)
            found = self.assert_paper(("mended", book, wishes, mends), kept)
            if kept:
                self.assertEqual((found.__class__, [table.__class__ for table in found]), (list, [list] * len(wishes)))
            found = self.assert_paper(("not mended", book, wishes, mends), not kept)
            if not kept:
                self.assertEqual([part.__class__ for part in (found, *found)], [tuple, int, Run])
                self.assertEqual(found[1].book, mended(book, mends))
            seen.add((kept, len(mends) > 0))
        self.assertEqual(len(seen), 4)

    def test_mended(self):
        book, mends = example_book(), [("bar", "shut", "open"), ("rest", "open")]
        wishes = [(GAP, 0), (D + 1, 1), (Form(None, 3), 3), (GAP, 0)]
        claim = ("mended", book, wishes, mends)
        tables = self.assert_paper(claim, True)
        self.assertEqual(len({id(table) for table in tables}), 4)
        self.assertIs(is_paper(claim, tuple(map(tuple, tables))), True)
        self.assertIs(is_paper(("mended", book_twin(book), tuple(wishes), mends[::-1]), tables), True)
        for value in [tables[:3], tables + [[]], tables + [None], [tables], [tables[1], tables[0], *tables[2:]],
                      [None] * 4, [[]] * 4,
                      dict(enumerate(tables)), tables[:3] + [bound_table(book, GAP, 50)],
                      tables[:2] + [None] + tables[3:]]:
            self.assertIs(is_paper(claim, value), False)
        for at in (0, 1, 3):
            rows = [(scene, form, number - TINY) for scene, form, number in tables[at]]
            self.assertIs(is_paper(claim, tables[:at] + [rows] + tables[at + 1:]), False)
        self.assertIs(is_paper(("mended", book, wishes, mends[1:]), tables), False)
        self.assertIs(is_paper(("mended", book, wishes[:3], mends), tables), False)
        self.assertIs(is_paper(("mended", book, [(GAP, -1), *wishes[1:]], mends), tables), False)
        self.assertIs(is_paper(("mended", book, [], mends), []), True)
        self.assertIs(is_paper(("mended", book, [], mends), ()), True)
        self.assertIs(is_paper(("mended", book, [], mends), [[]]), False)
        self.assertEqual(paper(("mended", book, [], [])), [])
        self.assertIsNone(paper(("not mended", book, [], [])))

    def test_not_mended(self):
        book, mends = example_book(), [("rest", "open")]
        wishes = [(D, 100), (GAP, 40), (GAP, 49), (GAP, 50)]
        claim = ("not mended", book, wishes, mends)
        self.assert_paper(claim, True)
        changed = mended(book, mends)
        run = Run(changed, [("open", 2)])
        for value, right in [
            ((1, run), True), ((2, run), True), ((0, run), False), ((3, run), False), ((4, run), False),
            ((-1, run), False), ((-2, run), False),
            ((True, run), False), ((Ratio(1), run), False), ((None, run), False), ((1, None), False),
            ((1, run.calls()), False), ([1, run], False),
            ((1, run, 1), False), ((run, 1), False), ((1,), False), ((1, Run(book, [("open", 2)])), False),
            ((1, Run(changed)), False),
            ((1, Run(mended(book, mends), [("open", Ratio(8, 5))])), False),
            ((1, Run(mended(book, mends), [("open", Ratio(8, 5) + TINY)])), True),
            ((2, Run(changed, [("open", Ratio(8, 5) + TINY)])), False), ((1, ShareRun.of_run(run, "even")), False),
            (run, False), ((1, (run,)), False),
            ((BIG, run), False), ((-BIG, run), False),
        ]:
            self.assertIs(is_paper(claim, value), right, value)
        self.assertIs(is_paper(("not mended", book, wishes, []), (1, run)), False)
        self.assertIs(is_paper(("not mended", changed, wishes, []), (1, run)), True)
        self.assertIs(is_paper(("not mended", book, wishes[1:], mends), (0, run)), True)
        self.assertIs(is_paper(("mended", book, wishes, mends), (1, run)), False)


class OnePaperForEachTest(unittest.TestCase):
    def test_papers_of_other_claims(self):
        claims = example_claims()
        papers = [paper(claim) for claim in claims]
        for (at, claim), (other, found) in itertools.product(enumerate(claims), enumerate(papers)):
            if found is not None and claim[0] != claims[other][0]:
                self.assertIs(is_paper(claim, found), False, (claim, claims[other]))

    def test_claims_and_papers_are_not_changed(self):
        for claim in example_claims():
            before = repr([part for part in claim if part.__class__ is not Plane])
            found = paper(claim)
            told_first = repr(found)
            self.assertIs(is_paper(claim, found), found is not None)
            self.assertEqual((repr([part for part in claim if part.__class__ is not Plane]),
                              repr(found)) if not isinstance(
                found, ShareRun) else (before, told_first), (before, told_first))
            if isinstance(found, list):
                found.clear()
                self.assertNotEqual(paper(claim), found)

    def test_great_books(self):
        rng = random_generator(631)
        for things, scenes in ((3, 5), (2, 6)):
            model = full_model(rng, things, scenes)
            model.scenes = {
                scene: {thing: (rng.randint(-BIG, BIG), rng.randint(1, BIG)) for thing in model.things}
                for scene in model.scenes
            }
            book = model.book()
            forms = [Form({thing: rng.randint(1,
                                              BIG) * rng.choice([-1, 1]) for thing in model.things}) for _ in range(2)]
            plane = Plane(book, *forms)
            wider = Plane(book, forms[0] * 2, forms[1] * 2)
            for claim in [("within", plane, plane), ("beyond", wider, Plane(book, forms[0] + 1, forms[1])),
                          ("at most", book, forms[0], greatest(book, forms[0])),
                          ("mended", book, [(form, greatest(book, form)) for form in forms], [])]:
                found = paper(claim)
                if claim[0] != "beyond" or found is not None:
                    self.assertIs(is_paper(claim, found), True)


if __name__ == "__main__":
    unittest.main()
