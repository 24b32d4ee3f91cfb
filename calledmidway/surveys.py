"""Surveys: what is seen of a bundle and of the bundles below it, while each reached scene is on. Nothing is checked.

What is seen is kept as marks. A mark is a tuple (values, count, calls): the values that the forms of a bundle have at
the end of these calls, tuples of a scene and a way, and how many of these count.
"""

from calledmidway.bundles import descent, keys_of, live_in, values_when_left
from calledmidway.leadins import quick_lead, ways_on


def _live_in_row(row):
    bundle, _ = row
    return live_in(bundle)


class Survey:
    """The marks for each reached scene and each bundle below a bundle, of which a function tells which ones to keep."""

    def __init__(self, book, kind, bundle, keep):
        self._book = book
        self._keep = keep
        self._callers = {scene: book.callers(scene) for scene in book.reached()}
        self._leads = {scene: quick_lead(book, scene) for scene in self._callers}
        # How scenes are come to by calls with the wait 0, which leave everything where it is.
        self._stills = {scene: ways_on(book, scene, book.resting) for scene in self._callers}
        self._bundles = {}
        self._found = {}
        # What is passed by a way that moves it has fewer live things, so that its marks are there already.
        for below, passings in sorted(descent(book, kind, bundle), key=_live_in_row):
            self._bundles[keys_of(below)] = below
            self._look_at(below, passings)

    def marks(self, scene, bundle):
        """Return the marks that were kept of a pure bundle while a scene is on."""
        return self._found[scene, keys_of(bundle)]

    def rows(self):
        """Return the list of the tuples of a scene, a pure bundle and its marks."""
        return [(scene, self._bundles[keys], self._found[scene, keys]) for scene, keys in self._found]

    def _look_at(self, bundle, passings):
        """Find the marks of a pure bundle in all scenes."""
        keep, keys = self._keep, keys_of(bundle)
        arrived = {scene: keep(self._arrivals(scene, bundle, passings[scene])) for scene in self._callers}
        for scene in self._callers:
            self._found[scene, keys] = keep([
                (values, count, [*calls, *[(still, 0) for still in self._stills[one][scene]]])
                for one in self._callers if scene in self._stills[one]
                for values, count, calls in arrived[one]
            ])

    def _arrivals(self, scene, bundle, passings):
        """Return the marks of a pure bundle behind a call of the scene that moves it, or by which it comes to rest."""
        marks = []
        if scene == self._book.first:
            goals = self._book.goals(scene)
            marks.append((tuple([form(goals) for form in bundle]), 0, []))
        for way, below in passings:
            moves = keys_of(below) != keys_of(bundle)
            more = 1 if moves and scene not in self._book.resting else 0
            for caller in self._callers[scene]:
                for values, count, calls in self._when_left(caller, below, moves):
                    marks.append((values, count + more, [*calls, (scene, way)]))
        return marks

    def _when_left(self, caller, bundle, moved):
        """Return the marks of a bundle when the caller is left; none for a bundle that was not moved and may differ."""
        fixed = values_when_left(self._book, caller, bundle)
        if fixed is not None:
            return [(fixed, 0, self._leads[caller])]
        if not moved:
            return []
        return [
            (tuple([value + form.number for value, form in zip(values, bundle)]), count, calls)
            for values, count, calls in self._found[caller, keys_of(bundle)]
        ]
