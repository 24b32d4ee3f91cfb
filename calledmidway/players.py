"""Players: scenes are called one by one, and what is seen is told at once."""

from calledmidway.books import check_book
from calledmidway.checks import as_time
from calledmidway.legs import calls_of, followed, moment_now, place_now, scene_now
from calledmidway.parts import check_scene
from calledmidway.ratios import Ratio
from calledmidway.runs import Run
from calledmidway.trials import Trial


class Player:
    """A book that is played, from the beginning on."""

    def __init__(self, book):
        check_book(book)
        self._book = book
        # The legs of the calls so far; a new tuple for each change.
        self._steps = ()

    @property
    def scene(self):
        """The scene that is on."""
        return scene_now(self._book, self._steps)

    @property
    def place(self):
        """The place at the moment."""
        return place_now(self._book, self._steps)

    @property
    def moment(self):
        """The sum of the waits so far."""
        return moment_now(self._steps)

    def __call__(self, scene, wait=0):
        """Call a scene, let the wait pass, and return the place."""
        check_scene(self._book.scenes(), scene)
        self._steps = followed(self._book, self._steps, scene, as_time(wait))
        return self.place

    def rest(self):
        """Let pass what is left of the longest length since the last call, and return the place."""
        if len(self._steps) > 0:
            scene, wait, place, moment = self._steps[-1]
            longest = Ratio(self._book.longest(scene))
            if wait.is_below(longest):
                self._steps = (*self._steps[:-1], (scene, longest, place, moment))
        return self.place

    def run(self):
        """Return the run so far."""
        return Run(self._book, calls_of(self._steps))

    def copy(self):
        """Return a player that goes on independently."""
        player = Player(self._book)
        player._steps = self._steps
        return player

    def trial(self):
        """Return a context manager behind whose block the player is as it was ahead of it."""
        return Trial(self)


def tried_player(player, action):
    """Call an action with a player within a trial, and return what it returns."""
    with player.trial():
        return action(player)


def played(book, calls):
    """Yield the places behind each of the calls."""
    run = Run(book, calls)
    places = [*run.begun(), run.end()]
    for place in places[1:]:
        yield place
