import itertools
import unittest
from fractions import Fraction

from calledmidway.books import Book
from calledmidway.corners import passed
from calledmidway.errors import (
    InvalidBook, InvalidCalls, InvalidForm, InvalidKind, InvalidRun, InvalidShares, InvalidTime, NoArrow, NotAllowed,
    TooEarly, UnknownScene, UnknownThing,
)
from calledmidway.forms import Form
from calledmidway.ratios import Ratio
from calledmidway.runs import Run
from calledmidway.shares import KINDS, ShareRun, are_shares, corner_shares, passed_by, shares_at
from tests.model import (
    GAP, example_book, full_model, plain, plain_place, plain_value, plain_weights, random_calls, random_form,
    random_generator, random_model, ratio,
)
from tests.test_corners import NO_BOOKS, NO_SCENES, STRANGE, waits_of
from tests.values import NO_FORMS, NO_LISTS, NO_NUMBERS, NO_TIMES, Like, Other, told

BIG = 123456789012345678901234567890
TINY = Ratio(1, BIG)
HALF = Ratio(1, 2)
D, L = Form.of("d"), Form.of("l")
NO_KINDS = ["", "odd", "Even", "even ", "ones", b"even", None, True, 0, 1, ["even"], ("even",), ("even", "one"),
            {"even"}, {"one": 1}, Ratio(1), D, Like(), Other(), str]
ALL, NONE = {"d": 1, "l": 1}, {"d": 0, "l": 0}


def share_values(model, scene):
    """Shares of all kinds for a scene: those at times, those of corners, and mixtures with what is near."""
    rng = random_generator(len(model.scenes[scene]) + model.longest(scene))
    rows = [model.shares(scene, plain(wait)) for wait in waits_of(model, scene)]
    rows += [{thing: Fraction(share) for thing, share in row.items()} for row in model.corner_shares(scene, "own")]
    parts = [Fraction(0), Fraction(1), Fraction(1, 2), Fraction(1, 3), Fraction(1, BIG), 1 - Fraction(1, BIG)]
    for _ in range(12):
        rows.append({thing: rng.choice(parts) for thing in model.things})
        row = dict(rng.choice(rows))
        thing = rng.choice(model.things)
        row[thing] = min(Fraction(1), max(Fraction(0), row[thing] + rng.choice([-1, 1]) * Fraction(1, BIG)))
        rows.append(row)
        order = sorted(model.things, key=lambda one: model.scenes[scene][one][1])
        falling = sorted((rng.choice(parts) for _ in order), reverse=True)
        rows.append(dict(zip(order, falling)))
    return rows


def models(number, many):
    rng = random_generator(number)
    for at in range(many):
        model = random_model(rng) if at else full_model(rng, 4, 3)
        yield rng, model, model.book()


def random_shares(rng, model, scene, kind):
    if kind == "even":
        return {thing: ratio(share) for thing, share in model.shares(scene, Fraction(rng.randint(0, 14), 2)).items()}
    lengths = {thing: length for thing, (_, length) in model.scenes[scene].items()}
    parts = sorted((Ratio(rng.randint(0, 5), 5) for _ in set(lengths.values())), key=plain, reverse=True)
    if kind == "one":
        by_length = dict(zip(sorted(set(lengths.values())), parts))
        return {thing: by_length[lengths[thing]] for thing in model.things}
    return {thing: rng.choice([0, 1, HALF, Ratio(rng.randint(0, 7), 7)]) for thing in model.things}


def random_share_calls(rng, model, kind, most=5):
    on, rests, calls = model.first, True, []
    while len(calls) < most:
        nexts = [other for one, other in model.arrows if one == on]
        if not nexts:
            break
        if not rests:
            calls[-1] = (on, {thing: 1 for thing in model.things})
        on = rng.choice(nexts)
        shares = random_shares(rng, model, on, kind)
        rests = on not in model.resting or all(plain(share) == 1 for share in shares.values())
        calls.append((on, shares))
    return calls


class AreSharesTest(unittest.TestCase):
    def test_kinds(self):
        self.assertEqual((KINDS, KINDS.__class__), (("even", "one", "own"), tuple))

    def test_against_the_model(self):
        seen = set()
        for _, model, book in models(301, 60):
            for scene in model.scenes:
                for row in share_values(model, scene):
                    verdicts = []
                    for kind in KINDS:
                        expected = model.are_right(scene, kind, row)
                        value = {thing: ratio(share) for thing, share in row.items()}
                        self.assertIs(are_shares(book, scene, kind, value), expected, (model.scenes[scene], kind, row))
                        verdicts.append(expected)
                    seen.add(tuple(verdicts))
        self.assertEqual(seen, {(True, True, True), (False, True, True), (False, False, True)})

    def test_by_hand(self):
        # In the scene open the length of d is 2, that of l is 4.
        book = example_book()
        for d, l, even, one in [
            (0, 0, True, True), (1, 1, True, True), (HALF, Ratio(1, 4), True, True), (1, HALF, True, True),
            (1, Ratio(3, 4), True, True), (1, 0, False, True), (0, 1, False, False), (HALF, HALF, False, True),
            (HALF, 0, False, True), (1, Ratio(1, 4), False, True), (Ratio(1, 4), HALF, False, False),
            (TINY, 0, False, True), (0, TINY, False, False), (1, HALF - TINY, False, True),
            (1, HALF + TINY, True, True),
            (Ratio(1) - TINY, 1, False, False), (1, Ratio(1) - TINY, True, True), (TINY, TINY * HALF, True, True),
        ]:
            for value in ({"d": d, "l": l}, {"l": l, "d": d}):
                self.assertIs(are_shares(book, "open", "even", value), even, value)
                self.assertIs(are_shares(value=value, kind="one", scene="open", book=book), one, value)
                self.assertIs(are_shares(book, "open", "own", value), True, value)

    def test_equal_lengths(self):
        book = Book(["d", "l", "v"], {"a": {"d": (1, 3), "l": (2, 3), "v": (3, 5)}}, [], "a")
        for d, l, v, even, one in [
            (HALF, HALF, 0, False, True), (HALF, HALF, Ratio(3, 10), True, True),
            (HALF, Ratio(1, 3), 0, False, False), (1, 1, HALF, False, True), (1, 1, Ratio(3, 5), True, True),
            (1, 0, 0, False, False), (0, 1, 0, False, False), (1, 1, 0, False, True), (1, 1, 1, True, True),
            (HALF, HALF, HALF, False, True), (HALF, HALF, 1, False, False), (HALF, HALF + TINY, 0, False, False),
            (HALF, HALF, HALF + TINY, False, False),
        ]:
            value = {"d": d, "l": l, "v": v}
            self.assertEqual([are_shares(book, "a", kind, value) for kind in KINDS], [even, one, True], value)

    def test_things_that_are_missing_or_further(self):
        book = example_book()
        for value in [{}, {"d": 1}, {"l": 0}, {"d": 0, "l": 0, "v": 0}, {"d": 0, "v": 0}, {"d": 0, "l": 0, None: 0},
                      {"d": 0, "L": 0}, {("d",): 0, "l": 0}, {0: 0, 1: 0}]:
            for kind in KINDS:
                self.assertIs(are_shares(book, "open", kind, value), False)

    def test_numbers_that_are_no_shares(self):
        book = example_book()
        for number in NO_NUMBERS + [-1, 2, -TINY, Ratio(1) + TINY, BIG, -BIG, Ratio(-1, 2), Ratio(3, 2), Like()]:
            for value in ({"d": number, "l": 0}, {"d": 1, "l": number}, {"d": number, "l": number}):
                for kind in KINDS:
                    self.assertIs(are_shares(book, "open", kind, value), False)

    def test_values_that_are_no_dicts(self):
        book = example_book()
        for value in NO_LISTS + [[], (), [("d", 0), ("l", 0)], (0, 0), [0, 0], "dl", Like(), Run(book), book, D]:
            if value.__class__ is not dict:
                for kind in KINDS:
                    self.assertIs(are_shares(book, "open", kind, value), False)

    def test_refused(self):
        book = example_book()
        for value in NO_BOOKS:
            self.assertIs(told(lambda: are_shares(value, None, None, None), InvalidBook).value, value)
        for value in NO_SCENES:
            self.assertIs(told(lambda: are_shares(book, value, None, None), UnknownScene).value, value)
        for value in NO_KINDS:
            self.assertIs(told(lambda: are_shares(book, "open", value, None), InvalidKind).value, value)
            self.assertIs(told(lambda: are_shares(book, "open", value, ALL), InvalidKind).value, value)


class CornerSharesTest(unittest.TestCase):
    def test_against_the_model(self):
        for _, model, book in models(302, 60):
            for scene in model.scenes:
                for kind in ("one", "own"):
                    found = corner_shares(book, scene, kind)
                    self.assertIs(found.__class__, list)
                    self.assertEqual(found, model.corner_shares(scene, kind))
                    for row in found:
                        self.assertEqual((row.__class__, list(row)), (dict, model.things))
                        self.assertLessEqual({share.__class__ for share in row.values()}, {int})
                    rows = [tuple(row.values()) for row in found]
                    self.assertEqual(rows, sorted(set(rows)))

    def test_the_book_of_the_document(self):
        book = example_book()
        self.assertEqual(corner_shares(book, "open", "one"), [{"d": 0, "l": 0}, {"d": 1, "l": 0}, {"d": 1, "l": 1}])
        self.assertEqual(corner_shares(book, "shut", "one"), [{"d": 0, "l": 0}, {"d": 0, "l": 1}, {"d": 1, "l": 1}])
        self.assertEqual(corner_shares(kind="own", scene="shut", book=book), [
            {"d": 0, "l": 0}, {"d": 0, "l": 1}, {"d": 1, "l": 0}, {"d": 1, "l": 1}])

    def test_equal_lengths_and_how_many(self):
        things = ["a", "d", "l", "v"]
        book = Book(things, {"s": {"a": (0, 2), "d": (0, 1), "l": (0, 2), "v": (0, 1)},
                             "t": {"a": (0, 4), "d": (0, 3), "l": (0, 2), "v": (0, 1)},
                             "u": {thing: (0, 7) for thing in things}}, [], "s")
        self.assertEqual([tuple(row.values()) for row in corner_shares(book, "s", "one")],
                         [(0, 0, 0, 0), (0, 1, 0, 1), (1, 1, 1, 1)])
        self.assertEqual([tuple(row.values()) for row in corner_shares(book, "t", "one")],
                         [(0, 0, 0, 0), (0, 0, 0, 1), (0, 0, 1, 1), (0, 1, 1, 1), (1, 1, 1, 1)])
        self.assertEqual([len(corner_shares(book, scene, "own")) for scene in "stu"], [16, 16, 16])
        self.assertEqual([tuple(row.values()) for row in corner_shares(book, "u", "own")],
                         list(itertools.product((0, 1), repeat=4)))
        self.assertEqual(len(corner_shares(book, "u", "one")), 2)

    def test_what_is_returned_may_be_changed(self):
        book = example_book()
        found = corner_shares(book, "open", "own")
        self.assertEqual(len({id(row) for row in found}), 4)
        found[0]["d"] = 7
        found.clear()
        self.assertEqual(corner_shares(book, "open", "own")[0], {"d": 0, "l": 0})

    def test_refused(self):
        book = example_book()
        for value in NO_BOOKS:
            self.assertIs(told(lambda: corner_shares(value, None, None), InvalidBook).value, value)
        for value in NO_SCENES:
            self.assertIs(told(lambda: corner_shares(book, value, None), UnknownScene).value, value)
            self.assertIs(told(lambda: corner_shares(book, value, "even"), UnknownScene).value, value)
        for value in NO_KINDS + ["even"]:
            self.assertIs(told(lambda: corner_shares(book, "open", value), InvalidKind).value, value)


class SharesAtTest(unittest.TestCase):
    def test_against_the_model(self):
        for _, model, book in models(303, 60):
            for scene in model.scenes:
                for wait in waits_of(model, scene):
                    found = shares_at(book, scene, wait)
                    self.assertEqual((found.__class__, list(found)), (dict, model.things))
                    self.assertLessEqual({share.__class__ for share in found.values()}, {Ratio})
                    self.assertEqual(plain_place(found), model.shares(scene, plain(wait)))
                    for kind in KINDS:
                        self.assertIs(are_shares(book, scene, kind, found), True)

    def test_by_hand(self):
        book = example_book()
        for wait, d, l in [(0, 0, 0), (1, HALF, Ratio(1, 4)), (2, 1, HALF), (3, 1, Ratio(3, 4)), (4, 1, 1),
                           (BIG, 1, 1)]:
            self.assertEqual(shares_at(wait=wait, scene="open", book=book), {"d": Ratio(0) + d, "l": Ratio(0) + l})
        shares_at(book, "open", 1)["d"] = 9
        self.assertEqual(shares_at(book, "open", Ratio(1)), {"d": HALF, "l": Ratio(1, 4)})

    def test_refused(self):
        book = example_book()
        for value in NO_BOOKS:
            self.assertIs(told(lambda: shares_at(value, None, None), InvalidBook).value, value)
        for value in NO_SCENES:
            self.assertIs(told(lambda: shares_at(book, value, None), UnknownScene).value, value)
        for value in NO_TIMES:
            self.assertIs(told(lambda: shares_at(book, "open", value), InvalidTime).value, value)


class PassedByTest(unittest.TestCase):
    def test_held_against_passed(self):
        for rng, model, book in models(304, 40):
            for scene in model.scenes:
                form = random_form(rng, model.things)
                for wait in waits_of(model, scene):
                    found = passed_by(book, scene, shares_at(book, scene, wait), form)
                    self.assertEqual((found, found.__class__), (passed(book, scene, wait, form), Form))

    def test_the_value_is_that_of_the_form_behind_the_call(self):
        for rng, model, book in models(305, 40):
            for scene in model.scenes:
                form = random_form(rng, model.things)
                place = {thing: Fraction(rng.randint(-9, 9), 4) for thing in model.things}
                for row in share_values(model, scene)[:20]:
                    found = passed_by(book, scene, {thing: ratio(share) for thing, share in row.items()}, form)
                    self.assertEqual(plain_value(found, place), plain_value(form, model.by_shares(scene, row, place)))
                    weights, number = model.passed(scene, row, plain_weights(form), plain(form.number))
                    self.assertEqual((plain_weights(found), plain(found.number)), (weights, number))

    def test_shares_that_are_right_for_own_ways_only(self):
        book = example_book()
        self.assertEqual(passed_by(book, "open", {"l": 1, "d": 0}, GAP), Form({"d": 1}, -100))
        self.assertEqual(passed_by(form=GAP, shares={"d": Ratio(3, 4), "l": 1}, scene="open", book=book),
                         Form({"d": Ratio(1, 4)}, -25))
        self.assertEqual(passed_by(book, "open", ALL, GAP + 7), Form(None, 7))
        self.assertEqual(passed_by(book, "open", NONE, GAP + 7), GAP + 7)
        self.assertEqual(passed_by(book, "open", {"d": 0, "l": 1}, D), D)

    def test_refused(self):
        book = example_book()
        for value in NO_BOOKS:
            self.assertIs(told(lambda: passed_by(value, None, None, None), InvalidBook).value, value)
        for value in NO_SCENES:
            self.assertIs(told(lambda: passed_by(book, value, None, None), UnknownScene).value, value)
        for value in NO_LISTS + [{}, {"d": 1}, {"d": 1, "l": True}, {"d": 1, "l": 2}, {"d": -TINY, "l": 0},
                                 {"d": 0, "v": 0}, {"d": 0, "l": 0, "v": 0}, [0, 1], Like()]:
            for form in (None, GAP):
                self.assertIsNone(told(lambda: passed_by(book, "open", value, form), InvalidShares).position)
        for value in NO_FORMS:
            self.assertIs(told(lambda: passed_by(book, "open", ALL, value), InvalidForm).value, value)
        for form, thing in STRANGE:
            self.assertEqual(told(lambda: passed_by(book, "open", ALL, form), UnknownThing).value, thing)

    def test_where_they_are_defined(self):
        for function in (are_shares, corner_shares, shares_at, passed_by, ShareRun):
            self.assertEqual(function.__module__, "calledmidway.shares")


class ShareRunTest(unittest.TestCase):
    def test_against_the_model(self):
        for rng, model, book in models(306, 80):
            for kind in KINDS:
                calls = random_share_calls(rng, model, kind)
                run = ShareRun(book, kind, calls)
                place = model.goals(model.first)
                for scene, shares in calls:
                    place = model.by_shares(scene, plain_place(shares), place)
                end = run.end()
                self.assertEqual((plain_place(end), list(end), end.__class__), (place, model.things, dict))
                self.assertLessEqual({number.__class__ for number in end.values()}, {Ratio})
                self.assertEqual((run.book, run.kind, len(run)), (book, kind, len(calls)))
                found = run.calls()
                self.assertEqual([scene for scene, _ in found], [scene for scene, _ in calls])
                for (_, got), (_, given) in zip(found, calls):
                    self.assertEqual((plain_place(got), list(got)), (plain_place(given), model.things))
                    self.assertLessEqual({share.__class__ for share in got.values()}, {Ratio})
                self.assertEqual(ShareRun(book, kind, found), run)

    def test_without_calls(self):
        book = example_book()
        for kind in KINDS:
            for run in (ShareRun(book, kind), ShareRun(book, kind, []), ShareRun(calls=(), kind=kind, book=book)):
                self.assertEqual((run.calls(), len(run), run.end()), ([], 0, {"d": Ratio(0), "l": Ratio(0)}))

    def test_by_hand(self):
        book = example_book()
        calls = (("open", {"l": HALF, "d": 0}), ("shut", {"d": HALF, "l": Ratio(1, 5)}), ("open", NONE))
        run = ShareRun(book, "own", calls)
        self.assertEqual(run.end(), {"d": Ratio(0), "l": Ratio(40)})
        self.assertEqual(len(run), 3)
        self.assertEqual(run.calls(), [("open", {"d": Ratio(0), "l": HALF}), ("shut", {"d": HALF, "l": Ratio(1, 5)}),
                                       ("open", {"d": Ratio(0), "l": Ratio(0)})])
        self.assertIs(run.calls()[0].__class__, tuple)

    def test_what_was_passed_or_returned_may_be_changed(self):
        book, shares = example_book(), {"d": 1, "l": 0}
        calls = [("open", shares), ("shut", shares)]
        run = ShareRun(book, "own", calls)
        before = [(scene, {"d": Ratio(1), "l": Ratio(0)}) for scene in ("open", "shut")]
        self.assertEqual(run.calls(), before)
        shares["d"] = 0
        calls.pop()
        self.assertEqual(run.calls(), before)
        found = run.calls()
        self.assertIsNot(found[0][1], found[1][1])
        found[0][1]["d"] = Ratio(5)
        found.clear()
        run.end().clear()
        self.assertEqual((run.calls(), run.end()["l"]), (before, Ratio(0)))

    def test_equality(self):
        book, calls = example_book(), [("open", {"d": 1, "l": 0})]
        run = ShareRun(book, "one", calls)
        self.assertTrue(run == ShareRun(example_book(), "one", tuple(calls)))
        self.assertFalse(run != ShareRun(book, "one", calls))
        self.assertEqual(run, ShareRun(book, "one", [("open", {"l": Ratio(0), "d": Ratio(1)})]))
        for other in (ShareRun(book, "own", calls), ShareRun(book * 2, "one", calls), ShareRun(book, "one"),
                      ShareRun(book, "one", [("open", ALL)]), ShareRun(book, "one", calls + [("shut", NONE)]), None, 0,
                      calls, run.calls(), Run(book, [("open", 1)]), Other(), book):
            self.assertTrue(run != other and not run == other)

    def test_of_run(self):
        rng = random_generator(307)
        for _ in range(80):
            model = random_model(rng)
            run = Run(model.book(), random_calls(rng, model))
            for kind in KINDS:
                found = ShareRun.of_run(run, kind)
                self.assertEqual((found.__class__, found.book, found.kind), (ShareRun, run.book, kind))
                self.assertEqual(found.calls(), [
                    (scene, shares_at(run.book, scene, wait)) for scene, wait in run.calls()])
                self.assertEqual(found.end(), run.end())
        run = Run(example_book(), [("open", 3)])
        self.assertEqual(ShareRun.of_run(kind="one", run=run).calls(), [("open", {"d": Ratio(1), "l": Ratio(3, 4)})])

    def test_of_run_refused(self):
        book = example_book()
        for value in NO_LISTS + [[], (), [("open", 1)], book, ShareRun(book, "even"), Like()]:
            self.assertIs(told(lambda: ShareRun.of_run(value, None), InvalidRun).value, value)
            self.assertIs(told(lambda: ShareRun.of_run(value, "even"), InvalidRun).value, value)
        for value in NO_KINDS:
            self.assertIs(told(lambda: ShareRun.of_run(Run(book), value), InvalidKind).value, value)

    def test_refused_books_and_kinds(self):
        for value in NO_BOOKS:
            self.assertIs(told(lambda: ShareRun(value, None, None), InvalidBook).value, value)
            self.assertIs(told(lambda: ShareRun(value, "even"), InvalidBook).value, value)
        for value in NO_KINDS:
            self.assertIs(told(lambda: ShareRun(example_book(), value, None), InvalidKind).value, value)
            self.assertIs(told(lambda: ShareRun(example_book(), value), InvalidKind).value, value)

    def test_refused_calls(self):
        book = example_book()
        for value in NO_LISTS:
            self.assertIsNone(told(lambda: ShareRun(book, "own", value), InvalidCalls).position)
        for scene in NO_SCENES:
            for position, calls in [(0, [(scene, ALL)]), (1, [("open", ALL), (scene, ALL)]),
                                    (0, [(scene, None), None])]:
                self.assertEqual(told(lambda: ShareRun(book, "own", calls), InvalidCalls).position, position)
        for value in [("open",), ("open", ALL, 1), ["open", ALL], (), "open", "ab", None, 0, {"open": ALL},
                      (ALL, "open"), Like()]:
            for position in (0, 2):
                # The errors of elements come ahead of those of shares, and of calls that are not allowed.
                calls = [("shut", None), ("open", 7)][:position] + [value, ("shut", True), None]
                self.assertEqual(told(lambda: ShareRun(book, "own", calls), InvalidCalls).position, position)

    def test_refused_shares(self):
        book = example_book()
        wrong = [None, 0, [], [("d", 1), ("l", 1)], {}, {"d": 1}, {"d": 1, "l": 1, "v": 1}, {"d": 1, "l": True},
                 {"d": 1, "l": 2}, {"d": 1, "l": -TINY}, Like(), "dl", Other()]
        for value in wrong:
            for kind in KINDS:
                for position, calls in [(0, [("open", value)]), (1, [("open", ALL), ("shut", value), ("open", value)]),
                                        (1, [("shut", ALL), ("shut", value)]), (0, [("shut", value), ("shut", ALL)])]:
                    self.assertEqual(told(lambda: ShareRun(book, kind, calls), InvalidShares).position, position)
        for shares, kinds in [({"d": 1, "l": 0}, ["even"]), ({"d": 0, "l": 1}, ["even", "one"]),
                              ({"d": HALF, "l": HALF}, ["even"])]:
            for kind in KINDS:
                calls = [("open", ALL), ("shut", NONE), ("open", shares)]
                if kind in kinds:
                    self.assertEqual(told(lambda: ShareRun(book, kind, calls), InvalidShares).position, 2)
                else:
                    self.assertEqual(len(ShareRun(book, kind, calls)), 3)

    def test_calls_that_are_not_allowed(self):
        for kind in KINDS:
            for resting, calls, position, cause, parts in [
                ((), [("shut", ALL)], 0, NoArrow, ("shut", "shut")),
                ((), [("open", ALL), ("open", ALL)], 1, NoArrow, ("open", "open")),
                ((), [("open", NONE), ("shut", NONE), ("shut", NONE), ("open", NONE)], 2, NoArrow, ("shut", "shut")),
                (("open",), [("open", NONE), ("shut", ALL)], 1, TooEarly, ("open",)),
                (("open",), [("open", {"d": 1, "l": HALF}), ("shut", ALL)], 1, TooEarly, ("open",)),
                (("open",), [("open", {"d": 1, "l": Ratio(1) - TINY}), ("shut", ALL)], 1, TooEarly, ("open",)),
                (("open",), [("open", NONE), ("open", ALL)], 1, NoArrow, ("open", "open")),
                (("shut",), [("open", NONE), ("shut", NONE), ("open", ALL), ("open", ALL)], 2, TooEarly, ("shut",)),
                (("open", "shut"), [("open", ALL), ("shut", {"d": HALF, "l": 1}), ("open", ALL)], 2, TooEarly,
                 ("shut",)),
            ]:
                error = told(lambda: ShareRun(example_book(resting), kind, calls), NotAllowed)
                self.assertEqual((error.position, error.__cause__.__class__), (position, cause))
                got = (error.__cause__.one, error.__cause__.other) if cause is NoArrow else (error.__cause__.name,)
                self.assertEqual(got, parts)

    def test_resting_scenes(self):
        for kind in KINDS:
            # The first scene can be left at the beginning; the last call may be of any shares.
            for resting, calls in [
                (("shut",), [("open", NONE)]), (("shut",), [("open", NONE), ("shut", {"d": HALF, "l": 1})]),
                (("shut",), [("open", {"d": 1, "l": HALF}), ("shut", ALL), ("open", NONE)]),
                (("open", "shut"), [("open", ALL), ("shut", ALL), ("open", {"d": 1, "l": HALF})]),
                (("open",), [("open", {"d": Ratio(1), "l": Ratio(1)}), ("shut", NONE), ("open", NONE)]),
            ]:
                self.assertEqual(len(ShareRun(example_book(resting), kind, calls)), len(calls))

    def test_the_class(self):
        for name in ("calls", "__len__", "end", "__eq__", "of_run", "book", "kind"):
            self.assertIn(name, vars(ShareRun))

    def test_against_books_with_other_arrows(self):
        rng = random_generator(308)
        seen = set()
        for _ in range(150):
            model = random_model(rng, 3, 4)
            scenes = list(model.scenes)
            calls = [(rng.choice(scenes), rng.choice([0, 1, 1, HALF])) for _ in range(4)]
            calls = [(scene, {thing: share for thing in model.things}) for scene, share in calls]
            why = model.why_not([(scene, model.longest(scene) if shares == {thing: 1 for thing in shares} else 0)
                                 for scene, shares in calls])
            if why is None:
                self.assertEqual(len(ShareRun(model.book(), "own", calls)), 4)
            else:
                error = told(lambda: ShareRun(model.book(), "own", calls), NotAllowed)
                self.assertEqual((error.position, error.__cause__.__class__.__name__), (why[0], why[1][0]))
            seen.add(why and why[1][0])
        self.assertEqual(seen, {None, "NoArrow", "TooEarly"})


if __name__ == "__main__":
    unittest.main()
