import unittest

from calledmidway.bounds import keeps, pace_span, peak, span
from calledmidway.desk import Desk
from calledmidway.drafts import Draft
from calledmidway.errors import (
    ArrowTaken, CommandFailed, InvalidArrow, InvalidCalls, InvalidCommand, InvalidThings, LimitError, MidwayError,
    MissingError, NameTaken, NoArrow, NoFirst, NotAllowed, NothingToUndo, StateError, TooEarly, TooMany, UnknownArrow,
    UnknownName, UnknownScene, UnknownThing,
)
from calledmidway.forms import Form
from calledmidway.ratios import Ratio
from calledmidway.runs import Run
from tests.model import GAP, example_book, random_generator
from tests.values import NO_LISTS, Like, Other, told

BIG = 123456789012345678901234567890
EXAMPLE = [
    "book b d l", "to b open d 100 2", "to b open l 100 4", "to b shut d 0 4", "to b shut l 0 2", "arrow b open shut",
    "arrow b shut open", "first b shut", "form gap d 1 l -1",
]
ONE_THING = ["book b d", "to b on d 8 4", "to b off d 0 2", "arrow b off on", "arrow b on off", "first b off",
             "form f d 1"]
NO_COMMANDS = [
    # Words and spaces.
    "", " ", "undo ", " undo", "Undo", "undo undo", "undo 1", "redo", "book", "book b", "book b ", "book  b d",
    " book b d",
    "book b d ", "book b  d", "Book b d", "BOOK b d", "book b d\n", "book\nb d", "book\tb d", "book b d\nundo",
    "undo\n",
    "book b d l v w x y z A", "names", "log", "do", "b", "span", "spans b f", "book,b,d",
    # Names.
    "book B d", "book b D", "book b 1", "book 1 d", "book b d1", "book abcdefghi d", "book b abcdefghi", "book b _",
    "book b d-l",
    "book b d l_", "form F d 1", "form abcdefghi d 1", "form f D 1", "form f abcdefghi 1", "drop", "drop B",
    "drop b f", "drop 1",
    "drop abcdefghi", "drop b ", "to B on d 1 1", "to b On d 1 1", "to b on D 1 1", "to b 1 d 1 1", "arrow b on",
    "arrow b",
    "arrow", "arrow b on off on", "arrow b on Off", "arrow B on off", "bar b on", "bar b on off on", "bar b on 1",
    "bar",
    "first b", "first", "first b on off", "first b On", "first B on", "rest b", "rest", "rest b on off", "rest b ON",
    "rest 1 on",
    # Numbers.
    "to b on d 1", "to b on d", "to b on d 1 1 1", "to b on d 1 0", "to b on d 1 -1", "to b on d 01 1",
    "to b on d 1 01",
    "to b on d -0 1", "to b on d +1 1", "to b on d 1 +1", "to b on d 1/2 1", "to b on d 1 1/2", "to b on d a 1",
    "to b on d 1 b",
    "to b on d - 1", "to b on d -01 1", "to b on d 1.0 1", "to b on d 1 1.0", "to b on d 1_0 1", "to b on d 1e1 1",
    "to b on d True 1",
    "to b on d --1 1", "to b on d 00 1", "to b on d 1 00",
    "form f", "form f d", "form", "form f d 1 l", "form f d 01", "form f d -0", "form f d +1", "form f d 1/2",
    "form f d l", "form f 1 d",
    "form f d 1 d 1", "form f d 1 l 2 d 3", "form f d 1 l 2 l 2", "form f d 1.5", "form f d one", "form f d 0 d 0",
    "form f d -",
    "span b", "span b f f", "span B f", "span b F", "span b 1", "peak b", "peak", "peak b f f", "peak b 1",
    "pace b on", "pace b",
    "pace b on f 1", "pace b On f", "pace b 1 f", "pace b on 1", "keeps b f", "keeps b", "keeps b f 1 1",
    "keeps b f 01", "keeps b f 1/1",
    "keeps b f 2/4", "keeps b f -0", "keeps b f +1", "keeps b f 1.5", "keeps b f one", "keeps b f 1/-2",
    "keeps b f -1/02", "keeps b f 0/3",
    "keeps b f 1/0", "keeps b f /2", "keeps b f 1/", "keeps b f 1/2/3", "keeps B f 1", "keeps b F 1",
    "end", "end B", "end b on", "end b on 1 off", "end b on -1", "end b on -1/2", "end b on 01", "end b on 2/4",
    "end b on 1/1",
    "end b 1 on", "end b on on", "end b On 1", "end b on 1 Off 1", "end b on +1", "end b on 1.5", "end b on 1 1",
    "end b on -0",
    "end b ", "end b on 1 ",
    # Values that are no strings.
    None, True, False, 0, 1, [], (), ["undo"], ("undo",), ["book", "b", "d"], {}, {"undo": 1}, {"undo"}, b"undo",
    b"book b d", Ratio(1),
    GAP, Like(), Other(), example_book(), str, Desk(),
]


def desk_of(commands):
    desk = Desk()
    desk.do_all(commands)
    return desk


class Reference:
    """A desk that makes everything anew from its log, for each command."""

    def __init__(self):
        self.commands = []

    def made(self):
        kept = {}
        for command in self.commands:
            self.change(kept, command.split(" "))
        return kept

    def draft(self, kept, name):
        if not isinstance(kept.get(name), Draft):
            raise UnknownName(name)
        return kept[name]

    def form(self, kept, name):
        if not isinstance(kept.get(name), Form):
            raise UnknownName(name)
        return kept[name]

    def change(self, kept, words):
        word, name, *rest = words
        if word in ("book", "form") and name in kept:
            raise NameTaken(name)
        if word == "drop":
            if name not in kept:
                raise UnknownName(name)
            kept.pop(name)
        elif word == "book":
            kept[name] = Draft(rest)
        elif word == "form":
            kept[name] = Form(dict(zip(rest[::2], map(int, rest[1::2]))))
        else:
            draft = self.draft(kept, name)
            if word == "to":
                draft[rest[0], rest[1]] = (int(rest[2]), int(rest[3]))
            elif word == "arrow":
                draft += tuple(rest)
            elif word == "bar":
                draft -= tuple(rest)
            elif word == "first":
                draft.first_scene = rest[0]
            elif rest[0] not in draft.scenes():
                raise UnknownScene(rest[0])
            else:
                draft.resting_scenes = sorted(set(draft.resting_scenes + rest))

    def ask(self, kept, words):
        word, name, *rest = words
        draft = self.draft(kept, name)
        if word == "end":
            calls = list(zip(rest[::2], map(ratio, rest[1::2])))
            place = Run(draft.made(), calls).end()
            return " ".join(str(place[thing]) for thing in sorted(place))
        form = self.form(kept, rest[1] if word == "pace" else rest[0])
        book = draft.made()
        if word == "keeps":
            return "yes" if keeps(book, form, ratio(rest[1])) else "no"
        if word == "span":
            return " ".join(map(str, span(book, form)))
        if word == "pace":
            found = pace_span(book, rest[0], form)
            return "never" if found is None else " ".join(map(str, found))
        return " ".join(f"{scene} {wait}" for scene, wait in peak(book, form).calls()) or "-"

    def do(self, command):
        words = command.split(" ")
        if words[0] == "undo":
            if not self.commands:
                raise NothingToUndo()
            self.commands.pop()
            return "done"
        kept = self.made()
        if words[0] in ("span", "keeps", "peak", "pace", "end"):
            return self.ask(kept, words)
        self.change(kept, words)
        self.commands.append(command)
        return "done"

    def do_all(self, commands):
        before, answers = list(self.commands), []
        for position, command in enumerate(commands):
            try:
                answers.append(self.do(command))
            except (MidwayError, MissingError, StateError, LimitError) as why:
                self.commands = before
                raise CommandFailed(position) from why
        return answers


def ratio(word):
    top, _, bottom = word.partition("/")
    return Ratio(int(top), int(bottom or 1))


def outcome(action):
    """What an action returns, or its error, with the parts and the cause of it."""
    try:
        return action()
    except (MidwayError, MissingError, StateError, LimitError) as error:
        cause = error.__cause__
        return error.__class__, vars(error), cause.__class__, cause and vars(cause)


def random_command(rng):
    name, form = rng.choice("bbbbc"), rng.choice("ffg")
    scene, other = rng.choice(["on", "off", "mid"]), rng.choice(["on", "off", "mid"])
    thing = rng.choice("dddl")
    wait = rng.choice(["0", "1", "1/2", "4", "9"])
    return rng.choice([
        f"book {name} d l", f"book {name} d", f"to {name} {scene} {thing} {rng.randint(-9, 9)} {rng.randint(1, 4)}",
        f"to {name} {scene} {thing} {rng.randint(-9, 9)} {rng.randint(1, 4)}", f"arrow {name} {scene} {other}",
        f"arrow {name} {scene} {other}", f"arrow {name} {scene} {other}", f"bar {name} {scene} {other}",
        f"first {name} {scene}",
        f"first {name} {scene}", f"rest {name} {scene}", f"form {form} d {rng.randint(-2, 2)}",
        f"form {form} d 1 l -1", "undo", "undo",
        f"drop {rng.choice('bcfg')}" if rng.random() < 0.4 else "undo", f"span {name} {form}",
        f"keeps {name} {form} 5/2",
        f"peak {name} {form}", f"pace {name} {scene} {form}", f"end {name}", f"end {name} {scene} {wait} {other} 2",
    ])


class CommandTest(unittest.TestCase):
    def test_the_book_of_the_document(self):
        desk = desk_of(EXAMPLE)
        for command, answer in [
            ("span b gap", "0 50"), ("keeps b gap 50", "yes"), ("keeps b gap 99/2", "no"), ("keeps b gap -1", "no"),
            ("pace b open gap", "-25 25"), ("end b open 2", "100 50"), ("end b open 2 shut 1", "75 25"),
            ("end b", "0 0"),
            ("end b open 1/3 shut 0", "50/3 25/3"), ("end b open 0", "0 0"),
        ]:
            self.assertEqual((desk.do(command), desk.do(command=command)), (answer, answer))
        words = desk.do("peak b gap").split(" ")
        run = Run(example_book(), [(scene, ratio(wait)) for scene, wait in zip(words[::2], words[1::2])])
        self.assertEqual((GAP(run.end()), run.counting()), (Ratio(50), 1))
        self.assertEqual(desk.log(), EXAMPLE)
        self.assertEqual(desk.names(), ["b", "gap"])

    def test_the_example_of_the_stage(self):
        desk = Desk()
        self.assertEqual(desk.do_all(commands=ONE_THING), ["done"] * 7)
        self.assertEqual([desk.do("span b f"), desk.do("pace b off f"), desk.do("end b on 1 off 1/2")],
                         ["0 8", "-4 0", "3/2"])

    def test_each_command_that_changes(self):
        desk = desk_of(ONE_THING)
        for command, question, answer in [
            ("to b on d -12 4", "span b f", "-12 0"), ("to b on d 8 2", "pace b on f", "0 4"),
            ("bar b off on", "pace b on f", "never"),
            ("bar b on off", "span b f", "0 8"), ("arrow b on on", "pace b on f", "0 2"), ("first b on", "end b", "8"),
            ("rest b on", "pace b off f", "-4 0"), ("rest b off", "pace b on f", "0 2"),
            ("form g d -2", "span b g", "-16 0"),
            ("form g d 0", "span b g", "0 0"), ("to b mid d 99 7", "span b f", "0 8"), ("drop f", "end b", "0"),
            ("form bcdefghi d 1", "span b bcdefghi", "0 8"), ("book c d l v w", "end b", "0"),
            (f"to b on d {BIG} 1", "end b on 1", str(BIG)),
            ("to b on d 0 1", "span b f", "0 0"), (f"form g d {-BIG}", "span b g", f"{-8 * BIG} 0"),
        ]:
            self.assertEqual(desk.do(command), "done", command)
            self.assertEqual(desk.do(question), answer, (command, question))
            self.assertEqual(desk.log(), ONE_THING + [command])
            self.assertEqual(desk.do("undo"), "done")
            self.assertEqual(desk.log(), ONE_THING)
            self.assertEqual(desk.do("span b f"), "0 8")

    def test_resting_scenes(self):
        desk = desk_of(ONE_THING + ["rest b on"])
        error = told(lambda: desk.do("end b on 3 off 1"), NotAllowed)
        self.assertEqual((error.position, error.__cause__.__class__, error.__cause__.name), (1, TooEarly, "on"))
        # It was resting already: that is a change, too, which alone is taken back.
        self.assertEqual(desk.do("rest b on"), "done")
        self.assertEqual(desk.log(), ONE_THING + ["rest b on"] * 2)
        desk.do("undo")
        told(lambda: desk.do("end b on 3 off 1"), NotAllowed)
        desk.do("rest b off")
        self.assertEqual([told(lambda: desk.do(command), NotAllowed).position for command in (
            "end b on 3 off 1", "end b on 4 off 1 on 1")], [1, 2])
        desk.do_all(["undo", "undo"])
        self.assertEqual(desk.do("end b on 3 off 1"), "3")

    def test_questions_do_not_change(self):
        desk = desk_of(EXAMPLE)
        for command in ("span b gap", "keeps b gap 1", "peak b gap", "pace b open gap", "end b open 1"):
            self.assertEqual(desk.do(command), desk.do(command))
        self.assertEqual((desk.log(), desk.names()), (EXAMPLE, ["b", "gap"]))
        desk.do("undo")
        self.assertEqual((desk.log(), desk.names()), (EXAMPLE[:-1], ["b"]))

    def test_peaks_without_calls(self):
        desk = desk_of(ONE_THING + ["form g d -1", "form none d 0"])
        for name in ("g", "none"):
            words = desk.do(f"peak b {name}")
            if words != "-":
                # Calls that do not count are a peak, too.
                calls = [(scene, ratio(wait)) for scene, wait in zip(words.split(" ")[::2], words.split(" ")[1::2])]
                self.assertLessEqual({wait for _, wait in calls}, {Ratio(0)})
        still = desk_of(["book b d", "to b on d 3 1", "first b on", "form f d 1"])
        self.assertEqual([still.do("peak b f"), still.do("span b f"), still.do("pace b on f"), still.do("end b")],
                         ["-", "3 3", "never", "3"])

    def test_names_stand_for_one_thing_only(self):
        desk = desk_of(["book b d", "form f d 1"])
        for command, name in [("book b l", "b"), ("book f d", "f"), ("form f l 1", "f"), ("form b d 1", "b"),
                              ("book b d d", "b"),
                              ("form f d 0", "f"), ("book f a b c d e", "f")]:
            self.assertEqual(told(lambda: desk.do(command), NameTaken).name, name)
        self.assertEqual(desk.names(), ["b", "f"])
        desk.do_all(["drop b", "drop f", "form b d 1", "book f d"])
        self.assertEqual((desk.names(), desk.log()[2:]), (["b", "f"], ["drop b", "drop f", "form b d 1", "book f d"]))
        self.assertEqual(told(lambda: desk.do("to b on d 1 1"), UnknownName).value, "b")
        self.assertEqual(desk.do("to f on d 1 1"), "done")
        # The words of commands are names, too, and a thing may have the name of a draft.
        words = ["book", "to", "arrow", "bar", "first", "rest", "form", "drop", "undo", "span"]
        desk = desk_of([f"book {word} {word}" for word in words])
        self.assertEqual(desk.names(), sorted(words))
        desk.do_all(["to undo undo undo 1 1", "drop drop"])

    def test_unknown_names_and_names_of_the_wrong_kind(self):
        desk = desk_of(["book b d", "form f d 1"])
        for command, name in [
            ("to x on d 1 1", "x"), ("to f on d 1 1", "f"), ("arrow x on off", "x"), ("arrow f on off", "f"),
            ("bar x on off", "x"),
            ("bar f on off", "f"), ("first x on", "x"), ("first f on", "f"), ("rest x on", "x"), ("rest f on", "f"),
            ("drop x", "x"),
            ("span x f", "x"), ("span b x", "x"), ("span x y", "x"), ("span f b", "f"), ("span b b", "b"),
            ("span f f", "f"),
            ("keeps x y 1", "x"), ("keeps b y 1", "y"), ("keeps b b 1", "b"), ("peak x f", "x"), ("peak b x", "x"),
            ("peak b b", "b"),
            ("peak f f", "f"), ("pace x on f", "x"), ("pace b on x", "x"), ("pace b on b", "b"), ("pace f on f", "f"),
            ("pace x on y", "x"),
            ("end x", "x"), ("end f", "f"), ("end f on 1", "f"), ("end x on 1", "x"),
        ]:
            self.assertEqual(told(lambda: desk.do(command), UnknownName).value, name, command)
        self.assertEqual((desk.names(), desk.log()), (["b", "f"], ["book b d", "form f d 1"]))

    def test_what_is_no_command(self):
        for desk in (Desk(), desk_of(ONE_THING)):
            before = desk.log(), desk.names()
            for value in NO_COMMANDS:
                self.assertIs(told(lambda: desk.do(value), InvalidCommand).value, value)
                error = told(lambda: desk.do_all(["book x d", value, "book y d"]), CommandFailed)
                self.assertEqual((error.position, error.__cause__.__class__), (1, InvalidCommand))
                self.assertIs(error.__cause__.value, value)
            self.assertEqual((desk.log(), desk.names()), before)

    def test_names_and_numbers_come_first(self):
        # Names that are taken or unknown, and parts that a draft has not, matter only for what is a command.
        desk = desk_of(ONE_THING)
        for command in ("book b D", "form f d 01", "form b d 1 d 1", "to x on d 1 0", "span x F", "keeps x y 2/4",
                        "end x on -1",
                        "to b on D 1 1", "arrow b nowhere Off", "drop X"):
            told(lambda: desk.do(command), InvalidCommand)

    def test_numbers_of_commands(self):
        desk = desk_of(ONE_THING)
        for command in ("to b on d 0 1", "to b on d -1 1", f"to b on d {-BIG} {BIG}", "form g d 0", "form h d -5 l 0",
                        f"form i d {BIG}",
                        f"to b on d {'9' * 999} {'8' * 999}"):
            self.assertEqual(desk.do(command), "done")
        for command, answer in [("keeps b f 0", "yes"), ("keeps b f -1/2", "no"), (f"keeps b f {BIG + 1}/7", "yes"),
                                ("keeps b f -3", "no")]:
            self.assertEqual(desk_of(["book b d", "to b on d 0 1", "first b on", "form f d 1"]).do(command), answer)

    def test_the_errors_of_what_is_used(self):
        desk = desk_of(ONE_THING + ["form far x 1", "form two d 1 l 1", "book new d"])
        before = desk.log(), desk.names()
        for command, error, parts in [
            ("book x d d", InvalidThings, {"position": 1}),
            ("book x a b c d e", TooMany, {"what": "things", "limit": 4}),
            ("book x a b c d a", InvalidThings, {"position": 4}),
            ("book x a b a b a b", InvalidThings, {"position": 2}),
            ("to b on x 1 1", UnknownThing, {"value": "x"}), ("to b nowhere x 1 1", UnknownThing, {"value": "x"}),
            ("arrow b on nowhere", InvalidArrow, {"value": ("on", "nowhere")}),
            ("arrow b nowhere on", InvalidArrow, {"value": ("nowhere", "on")}),
            ("arrow b on off", ArrowTaken, {"value": ("on", "off")}),
            ("bar b on on", UnknownArrow, {"value": ("on", "on")}),
            ("bar b on nowhere", UnknownArrow, {"value": ("on", "nowhere")}),
            ("first b nowhere", UnknownScene, {"value": "nowhere"}),
            ("rest b nowhere", UnknownScene, {"value": "nowhere"}), ("rest new on", UnknownScene, {"value": "on"}),
            ("first new on", UnknownScene, {"value": "on"}),
            ("span new f", NoFirst, {}), ("span new far", NoFirst, {}), ("keeps new f 1", NoFirst, {}),
            ("peak new f", NoFirst, {}),
            ("pace new nowhere far", NoFirst, {}), ("end new", NoFirst, {}), ("end new nowhere 1", NoFirst, {}),
            ("span b far", UnknownThing, {"value": "x"}), ("keeps b far 1", UnknownThing, {"value": "x"}),
            ("peak b two", UnknownThing, {"value": "l"}),
            ("pace b nowhere f", UnknownScene, {"value": "nowhere"}),
            ("pace b nowhere far", UnknownScene, {"value": "nowhere"}),
            ("pace b on far", UnknownThing, {"value": "x"}), ("pace b on two", UnknownThing, {"value": "l"}),
            ("end b nowhere 1", InvalidCalls, {"position": 0}), ("end b on 1 nowhere 1", InvalidCalls, {"position": 1}),
            ("end b off 1 nowhere 1", InvalidCalls, {"position": 1}), ("end b off 1", NotAllowed, {"position": 0}),
            ("end b on 1 off 1 off 1", NotAllowed, {"position": 2}), ("undo x", InvalidCommand, {"value": "undo x"}),
        ]:
            found = told(lambda: desk.do(command), error)
            self.assertEqual(vars(found), parts, command)
            commands = ["form y d 1", "undo", "form z d 1", command, "drop b"]
            failed = told(lambda: desk.do_all(commands), CommandFailed)
            self.assertEqual((failed.position, failed.__cause__.__class__, vars(failed.__cause__)), (3, error, parts))
            self.assertEqual((desk.log(), desk.names()), before)
        error = told(lambda: desk.do("end b off 1"), NotAllowed)
        self.assertEqual((error.__cause__.__class__, error.__cause__.one, error.__cause__.other),
                         (NoArrow, "off", "off"))

    def test_limits_of_drafts(self):
        desk = desk_of(["book b d"] + [f"to b {name} d 1 1" for name in "abcdef"])
        error = told(lambda: desk.do("to b g d 1 1"), TooMany)
        self.assertEqual((error.what, error.limit), ("scenes", 6))
        self.assertEqual(desk.do("to b f d 2 2"), "done")
        desk = desk_of(["book b d l v"] + [f"to b {name} d 1 1" for name in "abcde"])
        error = told(lambda: desk.do("to b g d 1 1"), TooMany)
        self.assertEqual((error.what, error.limit), ("motions", 15))
        self.assertEqual(len(desk.log()), 6)

    def test_what_is_not_told_yet(self):
        desk = desk_of(["book b d l", "to b on d 5 3", "first b on", "form f d 1 l 1"])
        self.assertEqual([desk.do("end b"), desk.do("span b f")], ["5 0", "5 5"])
        desk.do_all(["to b off l 4 1", "arrow b on off"])
        self.assertEqual([desk.do("end b off 1"), desk.do("span b f")], ["0 4", "4 5"])


class UndoTest(unittest.TestCase):
    def test_nothing_to_take_back(self):
        desk = Desk()
        for _ in range(2):
            told(lambda: desk.do("undo"), NothingToUndo)
        error = told(lambda: desk.do_all(["undo"]), CommandFailed)
        self.assertEqual((error.position, error.__cause__.__class__), (0, NothingToUndo))
        self.assertEqual(desk.do_all(["book b d", "undo"]), ["done", "done"])
        told(lambda: desk.do("undo"), NothingToUndo)
        error = told(lambda: desk.do_all(["book b d", "undo", "undo"]), CommandFailed)
        self.assertEqual((error.position, error.__cause__.__class__), (2, NothingToUndo))
        self.assertEqual((desk.log(), desk.names()), ([], []))

    def test_behind_each_command(self):
        commands = EXAMPLE + ["rest b open", "bar b open shut", "to b open d 3 1", "drop gap", "form gap d 2",
                              "drop b", "book b l"]
        desk, states = Desk(), []
        for command in commands:
            states.append((desk.log(), desk.names(), outcome(lambda: desk.do("span b gap")),
                           outcome(lambda: desk.do("end b"))))
            desk.do(command)
        while states:
            self.assertEqual(desk.do("undo"), "done")
            self.assertEqual(states.pop(), (desk.log(), desk.names(), outcome(lambda: desk.do("span b gap")),
                                            outcome(lambda: desk.do("end b"))))
        told(lambda: desk.do("undo"), NothingToUndo)

    def test_behind_lists(self):
        desk = desk_of(EXAMPLE)
        self.assertEqual(desk.do_all(["rest b open", "rest b shut", "drop gap"]), ["done"] * 3)
        # Each command of a list is taken back by itself.
        self.assertEqual([desk.do("undo"), desk.log()], ["done", EXAMPLE + ["rest b open", "rest b shut"]])
        self.assertEqual(desk.do_all(["undo", "bar b open shut", "undo", "undo", "span b gap"]),
                         ["done"] * 4 + ["0 50"])
        self.assertEqual(desk.log(), EXAMPLE)
        self.assertEqual(desk.do_all(["undo"] * len(EXAMPLE)), ["done"] * len(EXAMPLE))
        self.assertEqual((desk.log(), desk.names()), ([], []))

    def test_behind_refused_commands(self):
        desk = desk_of(ONE_THING)
        for command in ("book b d", "first b nowhere", "undo undo", "end b off 1", "drop x"):
            self.assertIsInstance(outcome(lambda: desk.do(command)), tuple)
            self.assertIsInstance(outcome(lambda: desk.do_all(["rest b on", "undo", "undo", command])), tuple)
        self.assertEqual(desk.log(), ONE_THING)
        self.assertEqual([desk.do("undo"), desk.log()], ["done", ONE_THING[:-1]])

    def test_an_undo_is_not_taken_back(self):
        desk = desk_of(["book b d", "book c d"])
        desk.do_all(["undo", "undo"])
        self.assertEqual(desk.names(), [])
        told(lambda: desk.do("undo"), NothingToUndo)
        desk.do_all(["book e d", "undo", "book f d"])
        self.assertEqual((desk.names(), desk.log()), (["f"], ["book f d"]))

    def test_a_draft_that_was_dropped_comes_back(self):
        desk = desk_of(EXAMPLE + ["drop b"])
        told(lambda: desk.do("span b gap"), UnknownName)
        desk.do("undo")
        self.assertEqual(desk.do("span b gap"), "0 50")
        desk.do_all(["drop b", "book b d", "undo", "undo"])
        self.assertEqual(desk.do("span b gap"), "0 50")


class ListTest(unittest.TestCase):
    def test_answers(self):
        desk = Desk()
        self.assertEqual(desk.do_all([]), [])
        self.assertEqual(desk.do_all(()), [])
        found = desk.do_all(tuple(EXAMPLE) + ("span b gap", "undo", "end b"))
        self.assertEqual((found, found.__class__), (["done"] * 9 + ["0 50", "done", "0 0"], list))

    def test_a_list_that_fails_at_any_place_changes_nothing(self):
        commands = EXAMPLE + ["span b gap", "undo", "rest b open"]
        for wrong, error in [("drop x", UnknownName), ("undo now", InvalidCommand), (None, InvalidCommand),
                             ("book z d d", InvalidThings),
                             ("form f d 1 d 1", InvalidCommand), ("end z", UnknownName)]:
            for at in range(len(commands) + 1):
                for start in ([], ["book a d", "to a on d 1 1", "undo"]):
                    desk = desk_of(start)
                    before = desk.log(), desk.names()
                    failed = told(lambda: desk.do_all(commands[:at] + [wrong] + commands[at:]), CommandFailed)
                    self.assertEqual((failed.position, failed.__cause__.__class__), (at, error))
                    self.assertEqual((desk.log(), desk.names()), before)
                    if start:
                        self.assertEqual([desk.do("undo"), desk.names()], ["done", []])
                    told(lambda: desk.do("undo"), NothingToUndo)

    def test_what_a_failed_list_took_back_is_there_again(self):
        desk = desk_of(EXAMPLE)
        failed = told(lambda: desk.do_all(["undo", "undo", "undo", "drop b", "drop b"]), CommandFailed)
        self.assertEqual((failed.position, failed.__cause__.value), (4, "b"))
        self.assertEqual((desk.log(), desk.names(), desk.do("span b gap")), (EXAMPLE, ["b", "gap"], "0 50"))
        self.assertEqual(desk.do_all(["undo"] * 9), ["done"] * 9)

    def test_values_that_are_no_lists(self):
        desk = desk_of(ONE_THING)
        for value in NO_LISTS + ["undo", "book x d", {"undo": 1}, Like(), Desk()]:
            self.assertIs(told(lambda: desk.do_all(value), InvalidCommand).value, value)
        self.assertEqual(desk.log(), ONE_THING)

    def test_what_is_passed_and_returned_may_be_changed(self):
        desk, commands = Desk(), list(ONE_THING)
        desk.do_all(commands).clear()
        self.assertEqual(commands, ONE_THING)
        commands.clear()
        desk.log().clear()
        desk.names().clear()
        self.assertEqual((desk.log(), desk.names()), (ONE_THING, ["b", "f"]))
        self.assertIsNot(desk.log(), desk.log())
        self.assertEqual([desk.log().__class__, desk.names().__class__], [list, list])

    def test_two_desks(self):
        one, other = desk_of(ONE_THING), Desk()
        self.assertEqual((other.log(), other.names()), ([], []))
        other.do("book b l")
        one.do("drop b")
        self.assertEqual((one.names(), other.names()), (["f"], ["b"]))
        self.assertEqual(Desk.__module__, "calledmidway.desk")
        for name in ("do", "do_all", "log", "names"):
            self.assertIn(name, vars(Desk))

    def test_long_logs(self):
        desk = desk_of(ONE_THING)
        for at in range(120):
            desk.do(f"to b on d {at} 4")
        self.assertEqual((len(desk.log()), desk.do("span b f")), (127, "0 119"))
        desk.do_all(["undo"] * 100)
        self.assertEqual((len(desk.log()), desk.do("span b f")), (27, "0 19"))


class AgainstReferenceTest(unittest.TestCase):
    def test_random_commands(self):
        rng, seen = random_generator(701), set()
        for _ in range(60):
            desk, reference = Desk(), Reference()
            if rng.random() < 0.7:
                for one in (desk, reference):
                    one.do_all(ONE_THING)
            for _ in range(40):
                if rng.random() < 0.8:
                    command = random_command(rng)
                    found, expected = outcome(lambda: desk.do(command)), outcome(lambda: reference.do(command))
                else:
                    commands = [random_command(rng) for _ in range(rng.randint(0, 3))]
                    found = outcome(lambda: desk.do_all(commands))
                    expected = outcome(lambda: reference.do_all(commands))
                self.assertEqual(found, expected)
                self.assertEqual((desk.log(), desk.names()), (reference.commands, sorted(reference.made())))
                if isinstance(found, tuple):
                    seen.add(found[0].__name__)
            self.assert_same_again(desk)
        self.assertLessEqual({"NameTaken", "UnknownName", "UnknownThing", "UnknownScene", "UnknownArrow", "ArrowTaken",
                              "InvalidArrow",
                              "NoFirst", "NotAllowed", "InvalidCalls", "NothingToUndo", "CommandFailed"}, seen)

    def assert_same_again(self, desk):
        """Told again in a new desk, the log gives the same answers."""
        again = Desk()
        self.assertEqual(again.do_all(desk.log()), ["done"] * len(desk.log()))
        self.assertEqual((again.log(), again.names()), (desk.log(), desk.names()))
        for name in "bc":
            for form in "fg":
                for command in (f"span {name} {form}", f"pace {name} on {form}", f"keeps {name} {form} 3",
                                f"end {name}", f"end {name} on 1"):
                    self.assertEqual(outcome(lambda: desk.do(command)), outcome(lambda: again.do(command)))

    def test_the_reference_itself(self):
        reference = Reference()
        reference.do_all(EXAMPLE)
        self.assertEqual([reference.do("span b gap"), reference.do("pace b open gap"),
                          reference.do("end b open 2 shut 1")],
                         ["0 50", "-25 25", "75 25"])


if __name__ == "__main__":
    unittest.main()
