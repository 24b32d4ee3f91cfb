"""Bounds: the greatest and the least values that are ever seen, and runs that show them."""

from calledmidway.checks import check_book_and_form, check_book_and_scene, check_form
from calledmidway.motions import bends_of, pace_from
from calledmidway.ratios import as_ratio, greatest_of
from calledmidway.runs import Run, crossing
from calledmidway.summits import summit_of, summits_when_on


def greatest(book, form):
    """Return the greatest value of a form."""
    check_book_and_form(book, form)
    value, _, _ = summit_of(book, form)
    return value


def least(book, form):
    """Return the least value of a form."""
    check_book_and_form(book, form)
    return -greatest(book, -form)


def span(book, form):
    """Return the tuple of the least and the greatest value of a form."""
    return least(book, form), greatest(book, form)


def keeps(book, form, bound):
    """Tell whether the greatest value of a form is at most the bound."""
    check_book_and_form(book, form)
    limit = as_ratio(bound)
    return not limit.is_below(greatest(book, form))


def peak(book, form):
    """Return a run at whose end a form has its greatest value, with the fewest calls that count."""
    check_book_and_form(book, form)
    _, _, calls = summit_of(book, form)
    return Run(book, calls)


def is_peak(book, form, value):
    """Tell whether any value is a run of an equal book that is a peak of a form."""
    check_book_and_form(book, form)
    if not isinstance(value, Run) or value.book != book:
        return False
    return value.counting() <= len(form) and form(value.end()) == greatest(book, form)


def fewest(book, form):
    """Return the least number of calls that count with which the greatest value of a form is seen."""
    check_book_and_form(book, form)
    _, count, _ = summit_of(book, form)
    return count


def run_to_value(book, form, value):
    """Return a run at whose end a form has just this value, or None if it is not seen."""
    check_book_and_form(book, form)
    wanted = as_ratio(value)
    if wanted.is_below(form(book.goals(book.first))):
        return run_to_value(book, -form, -wanted)
    run = peak(book, form)
    moment = crossing(run, form, wanted)
    if moment is None:
        return None
    return run.cut(moment)


def _greatest_when_called(book, scene, form):
    """Return the greatest value of a form when a scene is called that has callers."""
    values = summits_when_on(book, form)
    # A resting scene is left when it has come to rest.
    return greatest_of([
        form(book.goals(caller)) if caller in book.resting else values[caller] for caller in book.callers(scene)
    ])


def greatest_at_calls(book, scene, form):
    """Return the greatest value of a form at the moments at which a scene is called, or None if it never is."""
    check_book_and_scene(book, scene)
    check_form(book, form)
    if len(book.callers(scene)) == 0:
        return None
    return _greatest_when_called(book, scene, form)


def pace_span(book, scene, form):
    """Return the tuple of the least and the greatest pace of a form behind calls of a scene, or None."""
    check_book_and_scene(book, scene)
    check_form(book, form)
    if len(book.callers(scene)) == 0:
        return None
    paces = [pace_from(book, scene, since, form) for since in [0, *bends_of(book, scene, form)]]
    low = greatest_of([_greatest_when_called(book, scene, -pace) for pace in paces])
    return -low, greatest_of([_greatest_when_called(book, scene, pace) for pace in paces])
