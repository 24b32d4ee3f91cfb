"""Corners: what becomes of a form when a scene is called, and at which waits it bends."""

from calledmidway.bundles import descent, passings_of
from calledmidway.checks import as_time, check_book_and_form, check_book_and_scene, check_form
from calledmidway.motions import bends_of, form_by, pace_from, shares_behind


def bends(book, scene, form):
    """Return the sorted list of the bends of a form in a scene."""
    check_book_and_scene(book, scene)
    check_form(book, form)
    return bends_of(book, scene, form)


def passed(book, scene, wait, form):
    """Return the form passed through a scene by a wait."""
    check_book_and_scene(book, scene)
    time = as_time(wait)
    check_form(book, form)
    return form_by(book, scene, shares_behind(book, scene, time), form)


def pace_form(book, scene, form, since=0):
    """Return the pace form of a form in a scene from a time."""
    check_book_and_scene(book, scene)
    check_form(book, form)
    return pace_from(book, scene, as_time(since), form)


def passings(book, scene, form):
    """Yield the tuples of a wait, 0 or a bend, and of the form passed by it."""
    check_book_and_scene(book, scene)
    check_form(book, form)
    for wait, (below,) in passings_of(book, scene, "even", (form,)):
        yield wait, below


def forms_below(book, form):
    """Return the list of the forms below a form, in the sequence in which they are found."""
    check_book_and_form(book, form)
    return [below for (below,), _ in descent(book, "even", (form,))]
