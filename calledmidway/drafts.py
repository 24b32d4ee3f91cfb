"""Drafts: books in the making, whose changes can be taken back."""

from calledmidway.books import Book, check_book, check_sizes
from calledmidway.errors import ArrowTaken, InvalidArrow, InvalidEntry, InvalidMotion, InvalidName, NoFirst
from calledmidway.errors import NothingToUndo, UnknownArrow
from calledmidway.parts import check_resting, check_scene, check_thing, check_things, is_arrow, is_motion, is_pair
from calledmidway.ratios import is_name
from calledmidway.trials import Trial


class Draft:
    """Things, and what a book has besides, perhaps not all of it yet."""

    def __init__(self, things):
        check_things(things)
        check_sizes(len(things), 0)
        self._things = sorted(things)
        # What the draft was behind each change: motions by scene and thing, arrows, first and resting scenes.
        # The last one is what it is now. None of them is ever changed.
        self._steps = (({}, [], None, []),)

    @classmethod
    def of_book(cls, book):
        """Return the draft of a book, without anything to take back."""
        check_book(book)
        draft = Draft(book.things())
        motions = {
            scene: {thing: (book.goal(scene, thing), book.length(scene, thing)) for thing in book.things()}
            for scene in book.scenes()
        }
        draft._steps = ((motions, book.arrows(), book.first, book.resting),)
        return draft

    def _change(self, motions, arrows, first, resting):
        """Make this what the draft is now."""
        self._steps = (*self._steps, (motions, arrows, first, resting))

    def things(self):
        """Return the sorted list of the things."""
        return list(self._things)

    def scenes(self):
        """Return the sorted list of the scenes."""
        motions, _, _, _ = self._steps[-1]
        return sorted(motions)

    def arrows(self):
        """Return the sorted list of the arrows."""
        _, arrows, _, _ = self._steps[-1]
        return list(arrows)

    def __getitem__(self, at):
        if not is_pair(at):
            raise InvalidEntry(at)
        scene, thing = at
        motions, _, _, _ = self._steps[-1]
        check_scene(motions, scene)
        check_thing(self._things, thing)
        return motions[scene][thing]

    def __iter__(self):
        raise TypeError("a draft is not iterated over")

    def __setitem__(self, at, worth):
        if not is_pair(at):
            raise InvalidEntry(at)
        scene, thing = at
        if not is_name(scene):
            raise InvalidName(scene)
        check_thing(self._things, thing)
        if not is_motion(worth):
            raise InvalidMotion(worth)
        old, arrows, first, resting = self._steps[-1]
        row = old.get(scene, {name: (0, 1) for name in self._things})
        motions = {**old, scene: {**row, thing: worth}}
        check_sizes(len(self._things), len(motions))
        self._change(motions, arrows, first, resting)

    def add_arrow(self, value):
        """Let the draft have an arrow more."""
        motions, arrows, first, resting = self._steps[-1]
        if not is_arrow(motions, value):
            raise InvalidArrow(value)
        if value in arrows:
            raise ArrowTaken(value)
        self._change(motions, sorted([*arrows, value]), first, resting)

    def bar_arrow(self, value):
        """Let an arrow go."""
        motions, arrows, first, resting = self._steps[-1]
        if not is_arrow(motions, value) or value not in arrows:
            raise UnknownArrow(value)
        self._change(motions, [arrow for arrow in arrows if arrow != value], first, resting)

    def __iadd__(self, other):
        self.add_arrow(other)
        return self

    def __isub__(self, other):
        self.bar_arrow(other)
        return self

    @property
    def first_scene(self):
        """The first scene, or None."""
        _, _, first, _ = self._steps[-1]
        return first

    @first_scene.setter
    def first_scene(self, value):
        self.set_first(value)

    @property
    def resting_scenes(self):
        """The sorted list of the resting scenes."""
        _, _, _, resting = self._steps[-1]
        return list(resting)

    @resting_scenes.setter
    def resting_scenes(self, value):
        self.set_resting(value)

    def set_first(self, value):
        """Make a scene the first one."""
        motions, arrows, _, resting = self._steps[-1]
        check_scene(motions, value)
        self._change(motions, arrows, value, resting)

    def set_resting(self, value):
        """Make these scenes the resting ones."""
        motions, arrows, first, _ = self._steps[-1]
        check_resting(motions, value)
        self._change(motions, arrows, first, sorted(value))

    def remove(self, scene):
        """Let a scene go, with its arrows."""
        motions, arrows, first, resting = self._steps[-1]
        check_scene(motions, scene)
        self._change(
            {name: motions[name] for name in motions if name != scene},
            [arrow for arrow in arrows if scene not in arrow],
            None if first == scene else first,
            [name for name in resting if name != scene],
        )

    def undo(self):
        """Take back the last change that was not taken back."""
        if len(self._steps) == 1:
            raise NothingToUndo()
        self._steps = self._steps[:-1]

    def made(self):
        """Return the book that the draft is."""
        motions, arrows, first, resting = self._steps[-1]
        if first is None:
            raise NoFirst()
        return Book(self._things, motions, arrows, first, resting)

    def copy(self):
        """Return an equal draft that changes independently, without anything to take back."""
        draft = Draft(self._things)
        draft._steps = self._steps[-1:]
        return draft

    def trial(self):
        """Return a context manager behind whose block the draft is as it was ahead of it."""
        return Trial(self)

    def __eq__(self, other):
        return isinstance(other, Draft) and self._things == other._things and self._steps[-1] == other._steps[-1]


def tried(draft, action):
    """Call an action with a draft within a trial, and return what it returns."""
    with draft.trial():
        return action(draft)
