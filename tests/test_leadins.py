import itertools
import unittest

from calledmidway.books import Book
from calledmidway.errors import InvalidBook, UnknownScene
from calledmidway.leadins import can_follow, idle_scenes, lead_in, lead_run
from calledmidway.runs import Run
from tests.model import Model, example_book, random_generator, random_model
from tests.test_corners import NO_BOOKS, NO_SCENES
from tests.values import told

NAMES = ["a", "b", "c", "e", "f", "g"]


def book_of(arrows, first="a", resting=(), names=NAMES):
    scenes = {name: {"d": (at, at + 1)} for at, name in enumerate(names)}
    return Book(["d"], scenes, arrows, first, resting)


def expected_lead_in(model, scene):
    """The least of the shortest lists, found among all lists of that length."""
    if scene == model.first:
        return []
    for many in range(1, len(model.scenes) + 1):
        for rows in itertools.product(sorted(model.scenes), repeat=many):
            if rows[-1] == scene and all(pair in model.arrows for pair in zip((model.first, *rows), rows)):
                return list(rows)
    return None


class LeadInTest(unittest.TestCase):
    def assert_lead_ins(self, book, expected):
        self.assertEqual({scene: lead_in(book, scene) for scene in book.scenes()}, expected)

    def test_no_arrows(self):
        self.assert_lead_ins(book_of([], "c"), {**dict.fromkeys(NAMES), "c": []})

    def test_all_arrows(self):
        book = book_of(list(itertools.product(NAMES, NAMES)), "c")
        self.assert_lead_ins(book, {**{name: [name] for name in NAMES}, "c": []})

    def test_a_ring(self):
        ring = list(zip(NAMES, NAMES[1:] + NAMES[:1]))
        self.assert_lead_ins(book_of(ring, "c"), {
            "a": ["e", "f", "g", "a"], "b": ["e", "f", "g", "a", "b"], "c": [], "e": ["e"], "f": ["e", "f"],
            "g": ["e", "f", "g"],
        })
        back = [(other, one) for one, other in ring]
        self.assertEqual(lead_in(book_of(back, "b"), "c"), ["a", "g", "f", "e", "c"])

    def test_the_least_of_several_shortest_lists(self):
        arrows = [("a", "f"), ("a", "e"), ("f", "g"), ("e", "g"), ("a", "b"), ("b", "c"), ("c", "g")]
        self.assertEqual(lead_in(book_of(arrows), "g"), ["e", "g"])
        arrows = [("a", "c"), ("a", "b"), ("b", "f"), ("c", "e"), ("e", "g"), ("f", "g")]
        self.assertEqual(lead_in(book_of(arrows), "g"), ["b", "f", "g"])
        # The shorter list is taken, also if it is not the least of all lists.
        self.assertEqual(lead_in(book_of(arrows + [("c", "g")]), "g"), ["c", "g"])

    def test_arrows_that_do_not_help(self):
        book = book_of([("b", "a"), ("c", "b"), ("a", "a"), ("e", "f"), ("f", "e")])
        self.assert_lead_ins(book, {**dict.fromkeys(NAMES), "a": []})

    def test_random_books(self):
        rng = random_generator(81)
        for _ in range(120):
            model = random_model(rng, 2, 5)
            book = model.book()
            for scene in model.scenes:
                found = lead_in(book, scene)
                self.assertEqual(found, expected_lead_in(model, scene))
                self.assertIn(found.__class__, (list, None.__class__))

    def test_by_name_and_new_lists(self):
        book = example_book()
        self.assertEqual(lead_in(scene="open", book=book), ["open"])
        lead_in(book, "open").append("x")
        lead_in(book, "shut").append("x")
        self.assertEqual([lead_in(book, "open"), lead_in(book, "shut")], [["open"], []])


class LeadRunTest(unittest.TestCase):
    def test_random_books(self):
        rng = random_generator(82)
        for _ in range(120):
            model = random_model(rng, 3, 5)
            book = model.book()
            for scene in model.scenes:
                scenes, run = lead_in(book, scene), lead_run(book, scene)
                if scenes is None:
                    self.assertIsNone(run)
                    continue
                self.assertIs(run.__class__, Run)
                self.assertEqual(run, Run(book, [(name, model.longest(name)) for name in scenes]))
                self.assertEqual((run.scene_at(run.lasts), run.end()), (scene, book.goals(scene)))

    def test_the_first_scene_and_resting_ones(self):
        book = book_of([("a", "b"), ("b", "c"), ("c", "a")], "a", ["a", "b", "c"])
        self.assertEqual(lead_run(book, "a"), Run(book))
        self.assertEqual(lead_run(scene="c", book=book), Run(book, [("b", 2), ("c", 3)]))
        self.assertIsNone(lead_run(book, "f"))


class ReachedTest(unittest.TestCase):
    def test_idle_scenes(self):
        self.assertEqual(idle_scenes(book_of([], "c")), ["a", "b", "e", "f", "g"])
        self.assertEqual(idle_scenes(book_of(list(itertools.product(NAMES, NAMES)))), [])
        self.assertEqual(idle_scenes(book=book_of([("a", "g"), ("e", "f"), ("f", "b")])), ["b", "c", "e", "f"])
        self.assertIs(idle_scenes(example_book()).__class__, list)

    def test_can_follow(self):
        book = book_of([("a", "b"), ("b", "b"), ("b", "c"), ("e", "f"), ("f", "a"), ("e", "e")])
        follow = [(one, other) for one, other in itertools.product(NAMES, NAMES) if can_follow(book, one, other)]
        self.assertEqual(follow, [("a", "b"), ("b", "b"), ("b", "c")])
        self.assertIs(can_follow(book, other="b", one="a"), True)
        self.assertIs(can_follow(book, "b", "a"), False)
        self.assertIs(can_follow(book, "e", "f"), False)

    def test_random_books(self):
        rng = random_generator(83)
        for _ in range(120):
            model = random_model(rng)
            book, reached = model.book(), model.reached()
            self.assertEqual(idle_scenes(book), sorted(set(model.scenes) - set(reached)))
            for one, other in itertools.product(model.scenes, model.scenes):
                self.assertIs(can_follow(book, one, other), one in reached and (one, other) in model.arrows)


class RefusedTest(unittest.TestCase):
    def test_books(self):
        for value in NO_BOOKS:
            for action in (lambda: lead_in(value, "x"), lambda: lead_run(value, "x"), lambda: idle_scenes(value),
                           lambda: can_follow(value, "x", "x")):
                self.assertIs(told(action, InvalidBook).value, value)

    def test_scenes(self):
        for value in NO_SCENES:
            for action in (lambda: lead_in(example_book(), value), lambda: lead_run(example_book(), value),
                           lambda: can_follow(example_book(), value, "x"),
                           lambda: can_follow(example_book(), value, "open"),
                           lambda: can_follow(example_book(), "open", value)):
                self.assertIs(told(action, UnknownScene).value, value)

    def test_where_they_are_defined(self):
        for function in (lead_in, lead_run, idle_scenes, can_follow):
            self.assertEqual(function.__module__, "calledmidway.leadins")

    def test_what_was_passed_stays(self):
        book = Model(["d"], {"a": {"d": (0, 1)}, "b": {"d": (1, 1)}}, [("a", "b")], "a").book()
        before = repr(book)
        for _ in range(2):
            self.assertEqual([lead_in(book, "b"), idle_scenes(book), can_follow(book, "a", "b")], [["b"], [], True])
            self.assertEqual(repr(book), before)


if __name__ == "__main__":
    unittest.main()
