"""Summits: the greatest values of a form, and of the forms below it, while a scene is on, and calls that show them.

A summit is a mark with one value: a tuple ((value,), count, calls) of the greatest value, the least number of calls
that count with which it is seen, and such calls. Nothing is checked here.
"""

from calledmidway.surveys import Survey


def _is_better(one, other):
    """Tell whether a summit is higher than another one, or as high with fewer calls that count."""
    (value,), count, _ = one
    (old,), most, _ = other
    return old.is_below(value) or (value == old and count < most)


def _best_of(marks):
    """Return a list of the best one of some summits, the first one of several."""
    best = marks[0]
    for mark in marks:
        if _is_better(mark, best):
            best = mark
    return [best]


def _value_of(marks):
    """Return the value of the one summit that was kept."""
    (value,), _, _ = marks[0]
    return value


def summit_of(book, form, kind="even"):
    """Return the tuple of the greatest value of a form, its least number of calls that count, and such calls."""
    survey = Survey(book, kind, (form,), _best_of)
    best = _best_of([mark for scene in book.reached() for mark in survey.marks(scene, (form,))])
    (value,), count, calls = best[0]
    return value + form.number, count, calls


def summits_when_on(book, form):
    """Return a dict from the reached scenes to the greatest value of a form while the scene is on."""
    survey = Survey(book, "even", (form,), _best_of)
    return {scene: _value_of(survey.marks(scene, (form,))) + form.number for scene in book.reached()}


def summits_below(book, form, kind):
    """Return the list of the tuples (scene, form, greatest value) for the reached scenes and the forms below a form."""
    survey = Survey(book, kind, (form,), _best_of)
    return [(scene, below, _value_of(marks)) for scene, (below,), marks in survey.rows()]
