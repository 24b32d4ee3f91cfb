"""Books of scenes: where each thing is to go in each scene, and which scene can follow which."""

from calledmidway.errors import ArrowTaken, InvalidArrow, InvalidBook, InvalidNumber, TooMany, UnknownArrow
from calledmidway.parts import check_arrows, check_resting, check_scene, check_scenes, check_thing, check_things
from calledmidway.parts import is_arrow, is_one_of
from calledmidway.ratios import Ratio, is_integer


def check_book(book):
    """InvalidBook unless this is a Book."""
    if not isinstance(book, Book):
        raise InvalidBook(book)


def check_sizes(things, scenes):
    """TooMany unless a book can have so many things and scenes."""
    if things > Book.MOST_THINGS:
        raise TooMany("things", Book.MOST_THINGS)
    if scenes > Book.MOST_SCENES:
        raise TooMany("scenes", Book.MOST_SCENES)
    if things * scenes > Book.MOST_MOTIONS:
        raise TooMany("motions", Book.MOST_MOTIONS)


class Book:
    """Things, scenes with a goal and a length for each thing, arrows, a first scene and resting ones."""

    MOST_THINGS = 4
    MOST_SCENES = 6
    MOST_MOTIONS = 15

    def __init__(self, things, scenes, arrows, first, resting=()):
        check_things(things)
        check_scenes(things, scenes)
        check_arrows(scenes, arrows)
        check_scene(scenes, first)
        check_resting(scenes, resting)
        check_sizes(len(things), len(scenes))
        self._things = sorted(things)
        self._motions = {
            scene: {thing: scenes[scene][thing] for thing in self._things} for scene in sorted(scenes)
        }
        self._arrows = sorted(arrows)
        self._first = first
        self._resting = sorted(resting)

    def things(self):
        """Return the sorted list of the things."""
        return list(self._things)

    def scenes(self):
        """Return the sorted list of the scenes."""
        return list(self._motions)

    def arrows(self):
        """Return the sorted list of the arrows."""
        return list(self._arrows)

    @property
    def first(self):
        """The first scene."""
        return self._first

    @property
    def resting(self):
        """The sorted list of the resting scenes."""
        return list(self._resting)

    def _motion(self, scene, thing):
        """Return the tuple of the goal and the length of a thing in a scene."""
        check_scene(self._motions, scene)
        check_thing(self._things, thing)
        return self._motions[scene][thing]

    def goal(self, scene, thing):
        """Return where a scene leads a thing."""
        goal, _ = self._motion(scene, thing)
        return goal

    def length(self, scene, thing):
        """Return how long a thing is on its way in a scene."""
        _, length = self._motion(scene, thing)
        return length

    def goals(self, scene):
        """Return the place of the goals of a scene."""
        check_scene(self._motions, scene)
        return {thing: Ratio(goal) for thing, (goal, _) in self._motions[scene].items()}

    def longest(self, scene):
        """Return the greatest length of a scene."""
        check_scene(self._motions, scene)
        return max([length for _, length in self._motions[scene].values()])

    def reached(self):
        """Return the sorted list of the scenes that can be on in some run."""
        found = {self._first: True}
        # Each round finds a further scene, or there is none.
        for _ in self._motions:
            for one, other in self._arrows:
                if one in found:
                    found[other] = True
        return sorted(found)

    def callers(self, scene):
        """Return the sorted list of the reached scenes from which an arrow leads to a scene."""
        check_scene(self._motions, scene)
        return [one for one in self.reached() if (one, scene) in self._arrows]

    def __len__(self):
        return len(self._motions)

    def _has_arrow(self, value):
        """Tell whether any value is an arrow of the book."""
        return is_arrow(self._motions, value) and value in self._arrows

    def __contains__(self, value):
        return is_one_of(self._motions, value) or self._has_arrow(value)

    def _with_arrows(self, arrows):
        return Book(self._things, self._motions, arrows, self._first, self._resting)

    def _with_motions(self, motions):
        return Book(self._things, motions, self._arrows, self._first, self._resting)

    def __add__(self, other):
        if not is_arrow(self._motions, other):
            raise InvalidArrow(other)
        if other in self._arrows:
            raise ArrowTaken(other)
        return self._with_arrows([*self._arrows, other])

    def __sub__(self, other):
        if not self._has_arrow(other):
            raise UnknownArrow(other)
        return self._with_arrows([arrow for arrow in self._arrows if arrow != other])

    def __mul__(self, other):
        if not is_integer(other) or other < 1:
            raise InvalidNumber(other)
        return self._with_motions({
            scene: {thing: (self.goal(scene, thing), self.length(scene, thing) * other) for thing in self._things}
            for scene in self._motions
        })

    def __rmul__(self, other):
        if not is_integer(other):
            return NotImplemented
        return self * other

    def moved(self, thing, times, more):
        """Return the book with all goals of a thing multiplied by times, and more added."""
        check_thing(self._things, thing)
        if not is_integer(times):
            raise InvalidNumber(times)
        if not is_integer(more):
            raise InvalidNumber(more)
        motions = {}
        for scene in self._motions:
            motions[scene] = dict(self._motions[scene])
            motions[scene][thing] = (self.goal(scene, thing) * times + more, self.length(scene, thing))
        return self._with_motions(motions)

    def __eq__(self, other):
        return (
            isinstance(other, Book)
            and self._things == other._things
            and self._motions == other._motions
            and self._arrows == other._arrows
            and self._first == other._first
            and self._resting == other._resting
        )

    def __repr__(self):
        return f"Book({self._things!r}, {self._motions!r}, {self._arrows!r}, {self._first!r}, {self._resting!r})"
