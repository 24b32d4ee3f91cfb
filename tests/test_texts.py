import math
import re
import unittest
from fractions import Fraction

from calledmidway.books import Book
from calledmidway.bounds import peak
from calledmidway.errors import InvalidBook, InvalidForm, InvalidRun, InvalidText
from calledmidway.forms import Form
from calledmidway.ratios import Ratio
from calledmidway.runs import Run
from calledmidway.texts import book_text, form_text, read_book, read_run, run_text
from tests.model import (
    GAP, SCENES, example_book, full_model, plain, random_calls, random_form, random_generator, random_model,
)
from tests.test_corners import NO_BOOKS
from tests.values import NO_FORMS, NO_LISTS, Like, Other, told

BIG = 123456789012345678901234567890
NAME = "[a-z]{1,8}"
GOAL, LENGTH = "(?:0|-?[1-9][0-9]*)", "[1-9][0-9]*"
EXAMPLE = """thing d
thing l
scene open
to 100 in 2
to 100 in 4
scene shut
to 0 in 4
to 0 in 2
arrow open shut
arrow shut open
first shut
"""
NO_TEXTS = [value for value in NO_LISTS if value.__class__ is not str] + [
    [], (), ["first a\n"], ("first a\n",), b"first a\n", Like(), EXAMPLE.encode(), [EXAMPLE], example_book()]


def model_text(model):
    """The text of a model's book, as [91] tells it."""
    rows = [f"thing {thing}" for thing in sorted(model.things)]
    for scene in sorted(model.scenes):
        rows.append(f"scene {scene} resting" if scene in model.resting else f"scene {scene}")
        for thing in sorted(model.things):
            goal, length = model.scenes[scene][thing]
            rows.append(f"to {goal} in {length}")
    rows += [f"arrow {one} {other}" for one, other in sorted(model.arrows)]
    rows.append(f"first {model.first}")
    return "".join(row + "\n" for row in rows)


class BookLines:
    """Lines that stand at the beginning of a text of a book, taken apart."""

    def __init__(self, lines):
        self.lines, self.at = lines, 0
        self.things = self.some(f"thing ({NAME})")
        self.scenes, self.short = [], False
        while not self.is_at_end() and re.fullmatch(f"scene {NAME}(?: resting)?", lines[self.at]):
            self.scenes += self.some(f"scene ({NAME})(?: resting)?", 1)
            motions = self.some(f"to {GOAL} in {LENGTH}", len(self.things))
            if len(motions) < len(self.things):
                self.short = True
                break
        self.arrows = [] if self.short else self.some(f"arrow ({NAME}) ({NAME})")
        self.firsts = [] if self.short else self.some(f"first ({NAME})", 1)

    def is_at_end(self):
        return self.at == len(self.lines)

    def some(self, pattern, most=500):
        found = []
        while not self.is_at_end() and len(found) < most and re.fullmatch(pattern, self.lines[self.at]):
            groups = re.fullmatch(pattern, self.lines[self.at]).groups()
            found.append(groups[0] if len(groups) == 1 else groups)
            self.at += 1
        return found

    def is_beginning(self):
        rows = [self.things, self.scenes, self.arrows]
        if not self.is_at_end() or any(row != sorted(set(row)) for row in rows):
            return False
        if len(self.things) > 4 or len(self.scenes) > 6 or len(self.things) * len(self.scenes) > 15:
            return False
        if (self.scenes and not self.things) or ((self.arrows or self.firsts) and not self.scenes):
            return False
        return {name for pair in self.arrows for name in pair} | set(self.firsts) <= set(self.scenes)

    def is_whole(self):
        return self.is_beginning() and len(self.firsts) == 1


def is_wait(word):
    if not re.fullmatch("(0|[1-9][0-9]*)(/[1-9][0-9]*)?", word):
        return False
    top, _, bottom = word.partition("/")
    return not bottom or (bottom != "1" and math.gcd(int(top), int(bottom)) == 1)


def is_run_of(model, lines):
    words = [line.split(" ") for line in lines]
    if not all(len(row) == 3 and row[0] == "call" and row[1] in model.scenes and is_wait(row[2]) for row in words):
        return False
    return model.why_not([(scene, Fraction(wait)) for _, scene, wait in words]) is None


def wrong_line(text, is_beginning, is_whole):
    """The wrong line of a text, or None."""
    *lines, rest = text.split("\n")
    for many in range(1, len(lines) + 1):
        if not is_beginning(lines[:many]):
            return many
    return None if rest == "" and is_whole(lines) else len(lines) + 1


def wrong_book_line(text):
    return wrong_line(text, lambda lines: BookLines(lines).is_beginning(), lambda lines: BookLines(lines).is_whole())


def spoilt(rng, text):
    """A text with one line or one sign changed, left out, put in, twice, or exchanged."""
    rows = text.split("\n")
    at, other = rng.randrange(len(rows)), rng.randrange(len(rows))
    place = rng.randrange(len(text) + 1)
    sign = rng.choice("abdlz 0019-/\n\nA~.\"'\\{}")
    kind = rng.randrange(10)
    if kind == 0:
        return text[:place] + sign + text[place + 1:]
    if kind == 1:
        return text[:place] + text[place + 1:]
    if kind == 2:
        return text[:place] + sign + text[place:]
    if kind == 3:
        return text[:place] + text[place:place + 1] + text[place:]
    if kind == 4:
        return text[:place] + text[place + 1:place + 2] + text[place:place + 1] + text[place + 2:]
    if kind == 5:
        rows.pop(at)
    elif kind == 6:
        rows.insert(at, rows[other])
    elif kind == 7:
        rows[at], rows[other] = rows[other], rows[at]
    elif kind == 8:
        return text[:place]
    else:
        rows[at] = rng.choice(["", " ", rows[other], rows[at] + " ", " " + rows[at], rows[at].replace(" ", "  "),
                               rows[at] + " resting", rows[at] + "0", rows[at].upper(), rows[at].replace(" ", " 0", 1)])
    return "\n".join(rows)


class BookTextTest(unittest.TestCase):
    def assert_read(self, text):
        """A text is read if it is right, and otherwise the wrong line is told."""
        line = wrong_book_line(text)
        if line is None:
            book = read_book(text)
            self.assertIs(book.__class__, Book)
            self.assertEqual(book_text(book), text)
        else:
            error = told(lambda: read_book(text), InvalidText)
            self.assertEqual((error.line, error.line.__class__), (line, int), text)
        return line

    def test_each_book_comes_back(self):
        rng = random_generator(501)
        for _ in range(120):
            model = random_model(rng)
            text = book_text(model.book())
            self.assertEqual((text, text.__class__), (model_text(model), str))
            self.assertEqual(read_book(text), model.book())
            self.assertIsNone(self.assert_read(text))

    def test_the_book_of_the_document(self):
        self.assertEqual(book_text(example_book()), EXAMPLE)
        self.assertEqual(book_text(book=example_book(["shut"])), EXAMPLE.replace("scene shut", "scene shut resting"))
        self.assertEqual(read_book(text=EXAMPLE), example_book())

    def test_limits_and_great_numbers(self):
        rng = random_generator(502)
        for things, scenes in ((4, 3), (3, 5), (2, 6), (1, 6), (1, 1)):
            model = full_model(rng, things, scenes)
            model.scenes = {
                scene: {thing: (rng.choice([0, -1, -BIG, BIG]), rng.choice([1, BIG])) for thing in model.things}
                for scene in model.scenes
            }
            self.assertEqual(read_book(book_text(model.book())), model.book())
        # More scenes than there can be with so many things.
        for things, scenes in ((4, 4), (3, 6), (2, 7), (1, 7), (5, 1)):
            rows = [f"thing {name}" for name in "abcde"[:things]]
            for name in "abcdefg"[:scenes]:
                rows += [f"scene {name}"] + ["to 1 in 1"] * things
            text = "\n".join(rows + ["first a", ""])
            line = 5 if things == 5 else things + (scenes - 1) * (things + 1) + 1
            self.assertEqual(told(lambda: read_book(text), InvalidText).line, line)
            self.assertEqual(self.assert_read(text), line)

    def test_the_wrong_line(self):
        for text, line in [
            ("", 1), ("\n", 1), ("thing d", 1), ("thing d\n", 2), ("thing d\n\n", 2), (EXAMPLE[:-1], 11),
            (EXAMPLE + "\n", 12),
            (EXAMPLE + "first shut\n", 12), (EXAMPLE + "x", 12), (EXAMPLE + " \n", 12),
            (EXAMPLE.replace("first shut\n", ""), 11),
            (EXAMPLE.replace("first shut", "first nowhere"), 11), (EXAMPLE.replace("first shut", "first"), 11),
            (EXAMPLE.replace("thing d\n", ""), 4), (EXAMPLE.replace("thing d\nthing l\n", ""), 1),
            (EXAMPLE.replace("thing d\nthing l", "thing l\nthing d"), 2), (EXAMPLE.replace("thing l", "thing d"), 2),
            (EXAMPLE.replace("thing l\n", "thing l\nthing m\n"), 7), (EXAMPLE.replace("to 0 in 2\n", ""), 8),
            (EXAMPLE.replace("to 0 in 2\n", "to 0 in 2\nto 0 in 2\n"), 9),
            (EXAMPLE.replace("scene open", "scene zoom"), 6),
            (EXAMPLE.replace("scene open", "scene open resting"), None),
            (EXAMPLE.replace("scene open", "scene open rest"), 3),
            (EXAMPLE.replace("scene open", "scene open resting resting"), 3),
            (EXAMPLE.replace("scene open", "scene"), 3),
            (EXAMPLE.replace("scene open", "scene resting open"), 3), (EXAMPLE.replace("scene open", "scene Open"), 3),
            (EXAMPLE.replace("scene open", "scene abcdefghi"), 3), (EXAMPLE.replace("scene open", "scene  open"), 3),
            (EXAMPLE.replace("scene open", " scene open"), 3), (EXAMPLE.replace("scene open", "scene open "), 3),
            (EXAMPLE.replace("scene open", "Scene open"), 3), (EXAMPLE.replace("scene open", "to 1 in 1"), 3),
            (EXAMPLE.replace("arrow open shut\narrow shut open", "arrow shut open\narrow open shut"), 10),
            (EXAMPLE.replace("arrow open shut", "arrow shut open"), 10),
            (EXAMPLE.replace("arrow open shut\n", ""), None),
            (EXAMPLE.replace("arrow open shut", "arrow open zoom"), 9),
            (EXAMPLE.replace("arrow open shut", "arrow open"), 9),
            (EXAMPLE.replace("arrow open shut", "arrow open shut open"), 9),
            (EXAMPLE.replace("arrow open shut", "arrow a shut"), 9),
            (EXAMPLE.replace("arrow shut open\n", "first shut\n"), 11),
            (EXAMPLE.replace("first", "scene zoom\nto 1 in 1\nto 1 in 1\nfirst"), 11),
            (EXAMPLE.replace("first", "thing m\nfirst"), 11), (EXAMPLE.replace("scene shut", "thing m\nscene shut"), 6),
            (EXAMPLE.replace("\n", "\n\n"), 2), (EXAMPLE.replace("\n", " \n"), 1), (EXAMPLE.upper(), 1),
            (EXAMPLE.replace("\n", ""), 1), ("thing d\nfirst d\n", 2), ("thing d\nscene a\nfirst a\n", 3),
            ("first a\n", 1),
            ("thing d\nscene a\nto 1 in 1\nfirst a\n", None), ("thing d\nscene a\nto 1 in 1\n", 4),
            ("thing d\nscene a\n", 3),
            ("thing d\nscene a\nto 1 in 1", 3), ("thing d\nscene resting\nto 1 in 1\nfirst resting\n", None),
            ("thing d\nscene resting resting\nto 1 in 1\nfirst resting\n", None), ("scene a\nfirst a\n", 1),
            ("thing d\nscene a\nto 1 in 1\nscene b\nto 1 in 1", 5),
            ("thing d\nscene a\nto 1 in 1\narrow a a\nfirst a\n", None),
        ]:
            self.assertEqual(self.assert_read(text), line, text)

    def test_numbers(self):
        for goal, length, right in [
            ("0", "1", True), ("-1", "1", True), ("-0", "1", False), ("00", "1", False), ("01", "1", False),
            ("-01", "1", False),
            ("+1", "1", False), ("1", "0", False), ("1", "-1", False), ("1", "01", False), ("1", "+1", False),
            ("1.0", "1", False),
            ("1/2", "1", False), ("1", "1/2", False), ("", "1", False), ("1", "", False), ("-", "1", False),
            ("--1", "1", False),
            ("1-", "1", False), ("1_0", "1", False), ("0x1", "1", False), ("1e3", "1", False), ("a", "1", False),
            ("1", "b", False),
            (str(BIG), str(BIG), True), (f"-{BIG}", "10", True), ("10", "100", True), ("-10", "1", True),
            ("1 ", "1", False),
            (" 1", "1", False), ("1", " 1", False), ("1", "1 ", False), ("\"1\"", "1", False),
            ("9" * 999, "9" * 999, True),
        ]:
            text = f"thing d\nscene a\nto {goal} in {length}\nfirst a\n"
            self.assertEqual(self.assert_read(text), None if right else 3, text)
            if right:
                book = read_book(text)
                self.assertEqual((book.goal("a", "d"), book.length("a", "d")), (int(goal), int(length)))

    def test_each_line_left_out_twice_and_exchanged(self):
        for text in (EXAMPLE, EXAMPLE.replace("scene open", "scene open resting")):
            rows = text.split("\n")
            for at in range(len(rows)):
                self.assert_read("\n".join(rows[:at] + rows[at + 1:]))
                self.assert_read("\n".join(rows[:at + 1] + rows[at:]))
                self.assert_read("\n".join(rows[:at]))
                for other in range(at):
                    changed = list(rows)
                    changed[at], changed[other] = rows[other], rows[at]
                    self.assert_read("\n".join(changed))

    def test_each_sign_left_out_changed_and_twice(self):
        for at in range(len(EXAMPLE)):
            self.assert_read(EXAMPLE[:at] + EXAMPLE[at + 1:])
            self.assert_read(EXAMPLE[:at])
            for sign in "a 0-1\nZ":
                self.assert_read(EXAMPLE[:at] + sign + EXAMPLE[at:])
                self.assert_read(EXAMPLE[:at] + sign + EXAMPLE[at + 1:])

    def test_spoilt_texts(self):
        rng, seen = random_generator(503), set()
        for _ in range(100):
            text = model_text(random_model(rng))
            for _ in range(20):
                changed = spoilt(rng, text)
                line = self.assert_read(changed)
                seen.add(line is None)
                self.assert_read(spoilt(rng, changed))
        self.assertEqual(seen, {True, False})

    def test_refused(self):
        for value in NO_BOOKS:
            self.assertIs(told(lambda: book_text(value), InvalidBook).value, value)
        for value in NO_TEXTS:
            self.assertIsNone(told(lambda: read_book(value), InvalidText).line)


class RunTextTest(unittest.TestCase):
    def assert_read(self, model, text):
        line = wrong_line(text, lambda lines: is_run_of(model, lines), lambda lines: is_run_of(model, lines))
        book = model.book()
        if line is None:
            run = read_run(book, text)
            self.assertEqual((run.__class__, run.book), (Run, book))
            self.assertEqual(run_text(run), text)
        else:
            error = told(lambda: read_run(book, text), InvalidText)
            self.assertEqual((error.line, error.line.__class__), (line, int), text)
        return line

    def test_each_run_comes_back(self):
        rng = random_generator(511)
        for _ in range(120):
            model = random_model(rng)
            run = Run(model.book(), random_calls(rng, model))
            text = run_text(run)
            expected = "".join(f"call {scene} {plain(wait)}\n" for scene, wait in run.calls())
            self.assertEqual((text, text.__class__), (expected, str))
            self.assertEqual(read_run(model.book(), text), run)
            self.assertIsNone(self.assert_read(model, text))

    def test_by_hand(self):
        book = example_book()
        run = Run(book, [("open", 2), ("shut", Ratio(3, 6)), ("open", 0), ("shut", Ratio(BIG + 1, 7))])
        text = f"call open 2\ncall shut 1/2\ncall open 0\ncall shut {BIG + 1}/7\n"
        self.assertEqual(run_text(run=run), text)
        self.assertEqual(read_run(text=text, book=book), run)
        self.assertEqual((run_text(Run(book)), read_run(book, "")), ("", Run(book)))
        self.assertEqual(read_run(book, run_text(peak(book, GAP))), peak(book, GAP))

    def test_the_wrong_line(self):
        rng = random_generator(512)
        model = full_model(rng, 2, 2)
        model.scenes, model.arrows, model.first = SCENES, [("open", "shut"), ("shut", "open")], "shut"
        model.things = ["d", "l"]
        for resting, text, line in [
            ([], "", None), ([], "\n", 1), ([], "call open 1", 1), ([], "call open 1\n", None),
            ([], "call shut 1\n", 1),
            ([], "call open 1\ncall open 1\n", 2), ([], "call open 1\ncall shut 1\n\n", 3),
            ([], "call open 1\n\ncall shut 1\n", 2),
            ([], "call zoom 1\n", 1), ([], "call open\n", 1), ([], "call open 1 \n", 1), ([], "call  open 1\n", 1),
            ([], " call open 1\n", 1),
            ([], "call open  1\n", 1), ([], "Call open 1\n", 1), ([], "open 1\n", 1), ([], "call open 1 1\n", 1),
            ([], "call open shut 1\n", 1),
            ([], "call open -1\n", 1), ([], "call open -1/2\n", 1), ([], "call open 01\n", 1),
            ([], "call open 1/1\n", 1),
            ([], "call open 2/4\n", 1), ([], "call open 0/3\n", 1), ([], "call open 1/0\n", 1),
            ([], "call open 1/02\n", 1),
            ([], "call open 1/-2\n", 1), ([], "call open -0\n", 1), ([], "call open 1.5\n", 1),
            ([], "call open /2\n", 1), ([], "call open 1/\n", 1),
            ([], "call open 1/2/3\n", 1), ([], "call open +1\n", 1), ([], "call open one\n", 1),
            ([], "call open 3/2\n", None), ([], "call open 0\n", None),
            ([], "call open 1 /2\n", 1), ([], "call open 1/ 2\n", 1), ([], "call open 1\ncall shut 1", 2), ([], "x", 1),
            # A wait that is too short for a resting scene is wrong only in the line of the next call.
            (["open"], "call open 3\n", None), (["open"], "call open 3\ncall shut 1\n", 2),
            (["open"], "call open 4\ncall shut 1\n", None),
            (["open"], "call open 3\ncall shut 1", 2), (["open"], "call open 3", 1),
            (["open"], "call open 7/2\ncall shut 1\n", 2),
            (["open"], "call open 9/2\ncall shut 1\n", None), (["open"], "call open 3\ncall zoom 1\n", 2),
            (["open"], "call open 3\n\n", 2),
            (["shut"], "call open 1\ncall shut 3\ncall open 1\ncall shut 1\n", 3), (["shut"], "call open 0\n", None),
            (["open", "shut"], "call open 4\ncall shut 4\ncall open 0\n", None),
            (["open", "shut"], "call open 4\ncall shut 3\ncall open 0\n", 3),
        ]:
            model.resting = resting
            self.assertEqual(self.assert_read(model, text), line, text)

    def test_scenes_without_an_arrow(self):
        book = example_book() + ("open", "open") - ("shut", "open")
        self.assertEqual(read_run(book, ""), Run(book))
        for text in ("call open 1\n", "call open 1\ncall open 1\n", "call shut 1\n"):
            self.assertEqual(told(lambda: read_run(book, text), InvalidText).line, 1)

    def test_spoilt_texts(self):
        rng, seen = random_generator(513), set()
        for _ in range(120):
            model = random_model(rng)
            text = run_text(Run(model.book(), random_calls(rng, model)))
            for _ in range(15):
                seen.add(self.assert_read(model, spoilt(rng, text)) is None)
            other = random_model(rng)
            self.assert_read(other, text)
        self.assertEqual(seen, {True, False})

    def test_each_sign_left_out_changed_and_twice(self):
        rng = random_generator(514)
        model = full_model(rng, 2, 3)
        text = "".join(f"call {scene} {wait}\n" for scene,
                       wait in zip(sorted(model.scenes) * 2, ("0", "1/2", "7", "10", "3/2", "12")))
        for at in range(len(text)):
            self.assert_read(model, text[:at] + text[at + 1:])
            for sign in "a 0-1/\nZ":
                self.assert_read(model, text[:at] + sign + text[at:])
                self.assert_read(model, text[:at] + sign + text[at + 1:])

    def test_refused(self):
        for value in NO_LISTS + [[], (), example_book(), [("open", 1)], Like()]:
            self.assertIs(told(lambda: run_text(value), InvalidRun).value, value)
        for value in NO_BOOKS:
            self.assertIs(told(lambda: read_run(value, None), InvalidBook).value, value)
            self.assertIs(told(lambda: read_run(value, ""), InvalidBook).value, value)
        for value in NO_TEXTS:
            self.assertIsNone(told(lambda: read_run(example_book(), value), InvalidText).line)


class FormTextTest(unittest.TestCase):
    def test_against_weights(self):
        rng = random_generator(521)
        for _ in range(100):
            form = random_form(rng, ["a", "d", "l", "v"])
            rows = [f"{plain(weight)}*{thing}" for thing, weight in sorted(form.weights().items())]
            if form.number != Ratio(0) or not rows:
                rows.append(str(plain(form.number)))
            self.assertEqual((form_text(form), form_text(form).__class__), (" + ".join(rows), str))

    def test_by_hand(self):
        for form, text in [
            (Form(), "0"), (Form(None, 3), "3"), (Form(None, Ratio(-1, 2)), "-1/2"), (GAP, "1*d + -1*l"),
            (GAP + 3, "1*d + -1*l + 3"),
            (Form({"z": 2, "a": Ratio(2, 4), "m": 0}, -7), "1/2*a + 2*z + -7"), (Form.of("d"), "1*d"),
            (Form.of("d") - 1, "1*d + -1"),
            (Form({"drawer": BIG}), f"{BIG}*drawer"), (GAP - GAP, "0"), (GAP + Ratio(1, 3), "1*d + -1*l + 1/3"),
        ]:
            self.assertEqual(form_text(form), text)
            self.assertEqual(form_text(form=form), text)

    def test_refused(self):
        for value in NO_FORMS + [Like(), Other(), "1*d"]:
            self.assertIs(told(lambda: form_text(value), InvalidForm).value, value)

    def test_where_they_are_defined(self):
        for function in (book_text, run_text, read_book, read_run, form_text):
            self.assertEqual(function.__module__, "calledmidway.texts")


if __name__ == "__main__":
    unittest.main()
