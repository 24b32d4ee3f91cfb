"""Lines: the texts of books and runs, read line by line."""

from calledmidway.books import Book
from calledmidway.legs import calls_of, followed, refusal
from calledmidway.ratios import is_name
from calledmidway.runs import Run
from calledmidway.words import integer_of, length_of, time_of


def _follows(rows, value):
    """Tell whether a value comes behind the last one of the sorted rows."""
    return len(rows) == 0 or rows[-1] < value


class BookLines:
    """The lines of the text of a book so far, such that some right text begins with them."""

    def __init__(self):
        self._things = []
        self._motions = {}
        self._arrows = []
        self._first = None
        self._resting = []

    def take(self, line):
        """Tell whether a right text can go on with a line, and take it then."""
        words = line.split(" ")
        if self._first is not None:
            return False
        if len(self._waiting()) > 0:
            return self._take_motion(words)
        if words[0] == "thing":
            return self._take_thing(words)
        if words[0] == "scene":
            return self._take_scene(words)
        if words[0] == "arrow":
            return self._take_arrow(words)
        return self._take_first(words)

    def is_whole(self):
        """Tell whether the lines so far are a right text."""
        return self._first is not None

    def made(self):
        """Return the book that the lines tell."""
        return Book(self._things, self._motions, self._arrows, self._first, self._resting)

    def _waiting(self):
        """Return the things for which the last scene has no motion yet."""
        rows = list(self._motions.values())
        return self._things[len(rows[-1]):] if len(rows) > 0 else []

    def _take_thing(self, words):
        if len(words) != 2 or not is_name(words[1]) or not _follows(self._things, words[1]):
            return False
        if len(self._motions) > 0 or len(self._things) == Book.MOST_THINGS:
            return False
        self._things.append(words[1])
        return True

    def _take_scene(self, words):
        if words[2:] not in ([], ["resting"]) or len(words) < 2:
            return False
        name = words[1]
        if not is_name(name) or not _follows(list(self._motions), name) or len(self._arrows) > 0:
            return False
        many = len(self._motions) + 1
        if len(self._things) == 0 or many > Book.MOST_SCENES or many * len(self._things) > Book.MOST_MOTIONS:
            return False
        self._motions[name] = {}
        if len(words) == 3:
            self._resting.append(name)
        return True

    def _take_motion(self, words):
        if len(words) != 4 or words[0] != "to" or words[2] != "in":
            return False
        goal, length = integer_of(words[1]), length_of(words[3])
        if goal is None or length is None:
            return False
        thing, scene = self._waiting()[0], list(self._motions)[-1]
        self._motions[scene][thing] = (goal, length)
        return True

    def _take_arrow(self, words):
        arrow = tuple(words[1:])
        if len(arrow) != 2 or not all([scene in self._motions for scene in arrow]):
            return False
        if not _follows(self._arrows, arrow):
            return False
        self._arrows.append(arrow)
        return True

    def _take_first(self, words):
        if len(words) != 2 or words[0] != "first" or words[1] not in self._motions:
            return False
        self._first = words[1]
        return True


class RunLines:
    """The lines of the text of a run of a book so far; they are a right text at any time."""

    def __init__(self, book):
        self._book = book
        self._legs = ()

    def take(self, line):
        """Tell whether a right text can go on with a line, and take it then."""
        words = line.split(" ")
        if len(words) != 3 or words[0] != "call":
            return False
        wait = time_of(words[2])
        if wait is None or refusal(self._book, self._legs, words[1]) is not None:
            return False
        self._legs = followed(self._book, self._legs, words[1], wait)
        return True

    def is_whole(self):
        """Tell whether the lines so far are a right text."""
        return True

    def made(self):
        """Return the run that the lines tell."""
        return Run(self._book, calls_of(self._legs))
