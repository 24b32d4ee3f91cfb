"""Ways that nobody knows: the greatest values that are seen with them, and papers for these."""

from calledmidway.checks import check_book_and_form
from calledmidway.closings import is_table, table_of
from calledmidway.motions import shares_behind
from calledmidway.ratios import as_ratio
from calledmidway.shares import ShareRun, check_kind
from calledmidway.summits import summit_of


def _check(book, form, kind):
    check_book_and_form(book, form)
    check_kind(kind)


def greatest_by(book, form, kind):
    """Return the greatest value of a form at the ends of all share runs of a kind."""
    _check(book, form, kind)
    value, _, _ = summit_of(book, form, kind)
    return value


def _as_shares(book, scene, way):
    """Return the shares that are gone by a way, which is a wait or shares already."""
    return way if isinstance(way, dict) else shares_behind(book, scene, way)


def peak_by(book, form, kind):
    """Return a share run of a kind at whose end a form has its greatest value by this kind."""
    _check(book, form, kind)
    _, _, calls = summit_of(book, form, kind)
    return ShareRun(book, kind, [(scene, _as_shares(book, scene, way)) for scene, way in calls])


def _limit(book, form, bound, kind):
    """Return the bound as a Ratio; the errors come in the sequence of the parameters."""
    check_book_and_form(book, form)
    limit = as_ratio(bound)
    check_kind(kind)
    return limit


def table_by(book, form, bound, kind):
    """Return a bound table by a kind, or None if the bound is broken."""
    limit = _limit(book, form, bound, kind)
    return table_of(book, form, limit, kind)


def is_table_by(book, form, bound, kind, value):
    """Tell whether any value is a bound table by a kind."""
    limit = _limit(book, form, bound, kind)
    return is_table(book, form, limit, kind, value)
