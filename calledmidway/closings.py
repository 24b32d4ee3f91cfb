"""Closings: what makes a list of rows a bound table, whatever the kind of the ways. Parameters are not checked here."""

from calledmidway.bundles import key_of, passings_of, values_when_left
from calledmidway.checks import is_form_of
from calledmidway.parts import is_list, is_one_of
from calledmidway.ratios import as_ratio, greatest_of, is_number
from calledmidway.summits import summits_below


def table_of(book, form, limit, kind):
    """Return a bound table for a limit, a Ratio, or None if the limit is broken."""
    if len(form) == 0:
        return None if limit.is_below(form.number) else []
    rows = [(scene, below, value) for scene, below, value in summits_below(book, form, kind) if len(below) > 0]
    tops = [value for _, below, value in rows if key_of(below) == key_of(form)]
    return None if limit.is_below(greatest_of(tops) + form.number) else rows


def _is_row(book, value):
    """Tell whether any value is a tuple of a scene, a pure form with things of the book, and a NUMBER."""
    if not isinstance(value, tuple) or len(value) != 3:
        return False
    scene, form, number = value
    if not is_one_of(book.scenes(), scene) or not is_form_of(book, form):
        return False
    return form.number.sign == 0 and is_number(number)


def _numbers_of(book, value):
    """Return a dict from the scenes and the keys of the forms of rows to their numbers; None for what is no rows."""
    if not is_list(value):
        return None
    found = {}
    for row in value:
        if not _is_row(book, row):
            return None
        scene, form, number = row
        if (scene, key_of(form)) in found:
            return None
        found[scene, key_of(form)] = as_ratio(number)
    return found


def _is_below_row(book, numbers, caller, form, limit):
    """Tell whether a form is known to be at most a limit whenever a caller is left."""
    fixed = values_when_left(book, caller, (form,))
    if fixed is not None:
        return not limit.is_below(fixed[0])
    key = caller, key_of(form)
    return key in numbers and not limit.is_below(numbers[key] + form.number)


def _is_closed(book, kind, numbers, row, callers):
    """Tell whether what a row of a reached scene says follows from the other rows."""
    scene, form, _ = row
    limit = numbers[scene, key_of(form)]
    if scene == book.first and limit.is_below(form(book.goals(scene))):
        return False
    passings = passings_of(book, scene, kind, (form,))
    return all([_is_below_row(book, numbers, caller, below, limit) for _, (below,) in passings for caller in callers])


def least_bound(book, form, kind, value):
    """Return the least bound for which any value is a bound table; None if it is one for no bound."""
    numbers = _numbers_of(book, value)
    if numbers is None:
        return None
    callers = {scene: book.callers(scene) for scene in book.reached()}
    if not all([_is_closed(book, kind, numbers, row, callers[row[0]]) for row in value if row[0] in callers]):
        return None
    if len(form) == 0:
        return form.number
    tops = [(scene, key_of(form)) for scene in callers]
    if not all([top in numbers for top in tops]):
        return None
    return greatest_of([numbers[top] for top in tops]) + form.number


def is_table(book, form, limit, kind, value):
    """Tell whether any value is a bound table for a limit, a Ratio."""
    least = least_bound(book, form, kind, value)
    return least is not None and not limit.is_below(least)
