"""Shares: how much of its way each thing has gone, with even ways and with ways that nobody knows."""

from calledmidway.books import check_book
from calledmidway.checks import as_time, check_book_and_scene, check_form
from calledmidway.errors import InvalidCalls, InvalidKind, InvalidShares, NoArrow, NotAllowed, TooEarly
from calledmidway.motions import form_by, place_by, shares_behind
from calledmidway.parts import is_list, is_one_of, is_pair
from calledmidway.ratios import Ratio, as_ratio, is_number
from calledmidway.runs import check_run

KINDS = ("even", "one", "own")


def check_kind(kind):
    """InvalidKind unless this is one of the three kinds."""
    if not is_one_of(KINDS, kind):
        raise InvalidKind(kind)


def _is_share(value):
    """Tell whether any value is a NUMBER from 0 to 1."""
    if not is_number(value):
        return False
    share = as_ratio(value)
    return share.sign >= 0 and not Ratio(1).is_below(share)


def _has_shares(book, value):
    """Tell whether any value is a dict from exactly the things to NUMBERS from 0 to 1."""
    things = book.things()
    if not isinstance(value, dict) or len(value) != len(things):
        return False
    return all([thing in value and _is_share(value[thing]) for thing in things])


def _as_ratios(book, shares):
    """Return a new dict from the sorted things to their shares as Ratios."""
    return {thing: as_ratio(shares[thing]) for thing in book.things()}


def _are_even(book, scene, shares):
    """Tell whether the shares are gone at some time behind a call."""
    for thing in shares:
        # What is still on its way tells the time.
        if shares[thing] != Ratio(1):
            return shares == shares_behind(book, scene, shares[thing] * book.length(scene, thing))
    return True


def _are_one(book, scene, shares):
    """Tell whether nothing that is slower, or as slow, has gone a greater share."""
    for one in shares:
        for other in shares:
            if book.length(scene, one) <= book.length(scene, other) and shares[one].is_below(shares[other]):
                return False
    return True


def _are_right(book, scene, kind, value):
    """Tell whether any value is right shares for a kind."""
    if not _has_shares(book, value):
        return False
    shares = _as_ratios(book, value)
    if kind == "even":
        return _are_even(book, scene, shares)
    return kind == "own" or _are_one(book, scene, shares)


def are_shares(book, scene, kind, value):
    """Tell whether any value is right shares at a scene for a kind of ways."""
    check_book_and_scene(book, scene)
    check_kind(kind)
    return _are_right(book, scene, kind, value)


def _corners_of_one(book, scene):
    """Return the shares with 0 and 1 alone of one way: just the things up to some length are at their goals."""
    lengths = {thing: book.length(scene, thing) for thing in book.things()}
    limits = [0, *sorted({lengths[thing] for thing in lengths})]
    # With a greater limit there are further shares of 1, which makes a greater tuple.
    return [{thing: 1 if lengths[thing] <= limit else 0 for thing in lengths} for limit in limits]


def _corners_of_own(book):
    """Return all shares with 0 and 1 alone."""
    rows = [{}]
    for thing in book.things():
        rows = [{**row, thing: share} for row in rows for share in (0, 1)]
    return rows


def corner_shares(book, scene, kind):
    """Return the list of the right shares with 0 and 1 alone, for one unknown way or for own ways."""
    check_book_and_scene(book, scene)
    check_kind(kind)
    # With even ways the shares of things on their way matter, too.
    if kind == "even":
        raise InvalidKind(kind)
    return _corners_of_one(book, scene) if kind == "one" else _corners_of_own(book)


def shares_at(book, scene, wait):
    """Return the shares that are gone with even ways a time behind a call of a scene."""
    check_book_and_scene(book, scene)
    return shares_behind(book, scene, as_time(wait))


def passed_by(book, scene, shares, form):
    """Return the form whose value is that of the form behind a call of a scene when these shares are gone."""
    check_book_and_scene(book, scene)
    if not _has_shares(book, shares):
        raise InvalidShares(None)
    check_form(book, form)
    return form_by(book, scene, shares, form)


def _check_calls(book, kind, calls):
    """InvalidCalls or InvalidShares unless these are scenes with right shares for the kind."""
    if not is_list(calls):
        raise InvalidCalls(None)
    for position, value in enumerate(calls):
        if not is_pair(value) or not is_one_of(book.scenes(), value[0]):
            raise InvalidCalls(position)
    for position, (scene, shares) in enumerate(calls):
        if not _are_right(book, scene, kind, shares):
            raise InvalidShares(position)


def _refusal(book, before, scene):
    """Return the error that tells why a scene cannot be called behind the calls before, or None."""
    one, shares = before[-1] if len(before) > 0 else (book.first, {})
    if (one, scene) not in book:
        return NoArrow(one, scene)
    if one in book.resting and not all([shares[thing] == Ratio(1) for thing in shares]):
        return TooEarly(one)
    return None


class ShareRun:
    """A list of scenes that are called, with the shares that are gone behind each call."""

    def __init__(self, book, kind, calls=()):
        check_book(book)
        check_kind(kind)
        _check_calls(book, kind, calls)
        self._book = book
        self._kind = kind
        self._calls = [(scene, _as_ratios(book, shares)) for scene, shares in calls]
        for position, (scene, _) in enumerate(self._calls):
            why = _refusal(book, self._calls[:position], scene)
            if why is not None:
                raise NotAllowed(position) from why

    @classmethod
    def of_run(cls, run, kind):
        """Return the share run of the calls of a run."""
        check_run(run)
        return ShareRun(run.book, kind, [(scene, shares_behind(run.book, scene, wait)) for scene, wait in run.calls()])

    @property
    def book(self):
        """The book whose scenes are called."""
        return self._book

    @property
    def kind(self):
        """The kind of the ways."""
        return self._kind

    def calls(self):
        """Return the list of the tuples of a scene and of the shares, with Ratios."""
        return [(scene, dict(shares)) for scene, shares in self._calls]

    def __len__(self):
        return len(self._calls)

    def end(self):
        """Return the place that is reached."""
        place = self._book.goals(self._book.first)
        for scene, shares in self._calls:
            place = place_by(self._book, scene, shares, place)
        return place

    def __eq__(self, other):
        return (
            isinstance(other, ShareRun)
            and self._book == other._book
            and self._kind == other._kind
            and self._calls == other._calls
        )
