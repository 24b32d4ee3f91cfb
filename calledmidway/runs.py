"""Runs: lists of calls, and what is seen while they are made."""

from calledmidway.books import check_book
from calledmidway.checks import as_time, check_form
from calledmidway.errors import InvalidCalls, InvalidRun, InvalidTime
from calledmidway.legs import calls_of, legs_of, legs_until, moment_now, place_now, scene_now
from calledmidway.motions import bends_of, pace_from, place_behind
from calledmidway.parts import is_list
from calledmidway.ratios import Ratio, as_ratio


def _bends_within(book, scene, wait, form):
    """Return 0 and the bends that are less than the wait."""
    return [0, *[bend for bend in bends_of(book, scene, form) if Ratio(bend).is_below(wait)]]


def _pace_at(book, scene, since, form, place):
    """Return the pace of a form just behind a time behind a call of the scene at a place."""
    pace = pace_from(book, scene, since, form)
    return pace(place)


class Run:
    """A list of calls of a book, each of them allowed."""

    def __init__(self, book, calls=()):
        check_book(book)
        self._book = book
        self._legs = legs_of(book, calls)

    @property
    def book(self):
        """The book whose scenes are called."""
        return self._book

    def calls(self):
        """Return the list of the calls, with Ratios."""
        return calls_of(self._legs)

    def __len__(self):
        return len(self._legs)

    @property
    def lasts(self):
        """The sum of the waits."""
        return moment_now(self._legs)

    def _legs_by(self, moment):
        """Return the legs up to a moment; InvalidTime if it is none of the run."""
        time = as_time(moment)
        if self.lasts.is_below(time):
            raise InvalidTime(moment)
        return legs_until(self._legs, time)

    def at(self, moment):
        """Return the place at a moment."""
        return place_now(self._book, self._legs_by(moment))

    def scene_at(self, moment):
        """Return the scene that is on at a moment."""
        return scene_now(self._book, self._legs_by(moment))

    def end(self):
        """Return the place at the end."""
        return place_now(self._book, self._legs)

    def counting(self):
        """Return how many calls count."""
        resting = self._book.resting
        return len([scene for scene, wait in self.calls() if scene not in resting and wait.sign > 0])

    def begun(self):
        """Return the list of the places at which the calls are made."""
        return [dict(place) for _, _, place, _ in self._legs]

    def paces(self, form):
        """Return for each call the list of the paces behind it, from 0 and from each bend within its wait."""
        check_form(self._book, form)
        return [
            [
                _pace_at(self._book, scene, since, form, place)
                for since in _bends_within(self._book, scene, wait, form)
            ]
            for scene, wait, place, _ in self._legs
        ]

    def __add__(self, other):
        if not is_list(other):
            raise InvalidCalls(None)
        return Run(self._book, [*self.calls(), *other])

    def cut(self, moment):
        """Return the run of the calls made by a moment, which is its end."""
        return Run(self._book, calls_of(self._legs_by(moment)))

    def __eq__(self, other):
        return isinstance(other, Run) and self._book == other._book and self.calls() == other.calls()

    def __repr__(self):
        return f"Run({self._book!r}, {self.calls()!r})"


def check_run(run):
    """InvalidRun unless this is a Run."""
    if not isinstance(run, Run):
        raise InvalidRun(run)


def _check(run, form):
    check_run(run)
    check_form(run.book, form)


def _course(run, form):
    """Return the tuples (moment, value) between which the value changes evenly, in the sequence of time."""
    book = run.book
    begun = run.begun()
    moment = Ratio(0)
    rows = [(moment, form(run.at(0)))]
    for position, (scene, wait) in enumerate(run.calls()):
        for time in [*_bends_within(book, scene, wait, form), wait]:
            rows.append((moment + time, form(place_behind(book, scene, time, begun[position]))))
        moment = moment + wait
    return rows


def crossing(run, form, bound):
    """Return the first moment of the run at which the form is at least the bound, or None."""
    _check(run, form)
    wanted = as_ratio(bound)
    before, low = Ratio(0), None
    for moment, value in _course(run, form):
        if not value.is_below(wanted):
            if low is None:
                return moment
            return before + (moment - before) * (wanted - low).over(value - low)
        before, low = moment, value
    return None


def highest(run, form):
    """Return the tuple of the greatest value during the run and the first moment at which the form has it."""
    _check(run, form)
    best, first = None, None
    for moment, value in _course(run, form):
        if best is None or best.is_below(value):
            best, first = value, moment
    return best, first
