"""Planes: what is seen of two forms at once, as a convex polygon."""

from math import gcd

from calledmidway.books import check_book
from calledmidway.checks import check_form
from calledmidway.errors import InvalidPlane, InvalidPoint, TooMany
from calledmidway.hulls import corner_marks, mix_of, parting_weights
from calledmidway.parts import is_list, is_pair
from calledmidway.ratios import Ratio, as_ratio, is_number
from calledmidway.runs import Run
from calledmidway.surveys import Survey

MOST_THINGS_OF_PLANES = 3


def _is_point(value):
    """Tell whether any value is a tuple of two NUMBERS."""
    return is_pair(value) and all([is_number(number) for number in value])


def _as_ratios(point):
    x, y = point
    return as_ratio(x), as_ratio(y)


def _corners_of(book, first, second):
    """Return the list of the tuples of a corner and of the calls at whose end it is seen."""
    survey = Survey(book, "even", (first, second), corner_marks)
    marks = corner_marks([mark for scene in book.reached() for mark in survey.marks(scene, (first, second))])
    return [((x + first.number, y + second.number), calls) for (x, y), _, calls in marks]


class Plane:
    """A book with two forms, and the hull of all points that are seen."""

    def __init__(self, book, first, second):
        check_book(book)
        check_form(book, first)
        check_form(book, second)
        if len(book.things()) > MOST_THINGS_OF_PLANES:
            raise TooMany("things", MOST_THINGS_OF_PLANES)
        self._book = book
        self._first = first
        self._second = second
        self._corners = _corners_of(book, first, second)

    @property
    def book(self):
        """The book whose scenes are called."""
        return self._book

    @property
    def first(self):
        """The form that gives the first number of a point."""
        return self._first

    @property
    def second(self):
        """The form that gives the second number of a point."""
        return self._second

    def point(self, place):
        """Return the point of the values of both forms at a place."""
        first, second = self._first, self._second
        return first(place), second(place)

    def corners(self):
        """Return the list of the corners of the hull."""
        return [corner for corner, _ in self._corners]

    def run_to(self, corner):
        """Return a run at whose end the forms have the values of a corner."""
        if not _is_point(corner):
            raise InvalidPoint(corner)
        for point, calls in self._corners:
            if point == _as_ratios(corner):
                return Run(self._book, calls)
        raise InvalidPoint(corner)

    def __contains__(self, value):
        return _is_point(value) and parting_weights(self.corners(), _as_ratios(value)) is None

    def turned(self):
        """Return the plane with the two forms exchanged."""
        return Plane(self._book, self._second, self._first)

    def __eq__(self, other):
        return (
            isinstance(other, Plane)
            and self._book == other._book
            and self._first == other._first
            and self._second == other._second
        )


def _check_planes(one, other):
    for plane in (one, other):
        if not isinstance(plane, Plane):
            raise InvalidPlane(plane)


def is_within(one, other):
    """Tell whether the hull of a plane is part of the hull of another one."""
    _check_planes(one, other)
    return all([corner in other for corner in one.corners()])


def mixes(one, other):
    """Return the list of the lists of numbers with which the corners of other give those of one, or None."""
    if not is_within(one, other):
        return None
    corners = other.corners()
    return [mix_of(corners, corner) for corner in one.corners()]


def _is_mix(corners, corner, value):
    """Tell whether any value is a list of numbers with which the corners give a corner."""
    if not is_list(value) or len(value) != len(corners) or not all([is_number(number) for number in value]):
        return False
    shares = [as_ratio(number) for number in value]
    if not all([share.sign >= 0 for share in shares]) or Ratio.total(*shares) != Ratio(1):
        return False
    x, y = Ratio(0), Ratio(0)
    for share, (u, v) in zip(shares, corners):
        x, y = x + share * u, y + share * v
    return (x, y) == corner


def is_mixes(one, other, value):
    """Tell whether any value is mixes for two planes."""
    _check_planes(one, other)
    corners = other.corners()
    if not is_list(value) or len(value) != len(one.corners()):
        return False
    return all([_is_mix(corners, corner, mix) for corner, mix in zip(one.corners(), value)])


def _as_integers(weights):
    """Return the least integers that are to each other as two Ratios."""
    one, other = weights
    x, y = one.top * other.bottom, other.top * one.bottom
    shared = gcd(x, y)
    return x // shared, y // shared


def parting(one, other):
    """Return the integers by which the forms of one come to more than those of other, or None."""
    _check_planes(one, other)
    corners = other.corners()
    for corner in one.corners():
        weights = parting_weights(corners, corner)
        if weights is not None:
            return _as_integers(weights)
    return None
