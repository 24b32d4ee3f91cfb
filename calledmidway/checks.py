"""The errors of parameters that functions of several files have in common."""

from calledmidway.errors import InvalidForm, InvalidTime, UnknownThing
from calledmidway.forms import Form
from calledmidway.ratios import as_ratio, is_number


def is_time(value):
    """Tell whether any value is a NUMBER that is at least 0."""
    return is_number(value) and not as_ratio(value).is_below(0)


def as_time(value):
    """Return the Ratio that a time is; InvalidTime for any other value."""
    if not is_time(value):
        raise InvalidTime(value)
    return as_ratio(value)


def is_form_of(book, value):
    """Tell whether any value is a Form with things of the book alone."""
    return isinstance(value, Form) and all([thing in book.things() for thing in value.live()])


def check_form(book, form):
    """InvalidForm unless this is a Form; UnknownThing if it has a live thing that the book has not."""
    if not isinstance(form, Form):
        raise InvalidForm(form)
    for thing in form.live():
        if thing not in book.things():
            raise UnknownThing(thing)
