"""The errors of parameters that functions of several files have in common."""

from calledmidway.books import check_book
from calledmidway.errors import InvalidForm, InvalidTime, UnknownThing
from calledmidway.forms import Form
from calledmidway.parts import check_scene
from calledmidway.ratios import as_ratio, is_number


def is_time(value):
    """Tell whether any value is a NUMBER that is at least 0."""
    return is_number(value) and not as_ratio(value).is_below(0)


def as_time(value):
    """Return the Ratio that a time is; InvalidTime for any other value."""
    if not is_time(value):
        raise InvalidTime(value)
    return as_ratio(value)


def is_form_of(book, value):
    """Tell whether any value is a Form with things of the book alone."""
    return isinstance(value, Form) and all([thing in book.things() for thing in value.live()])


def check_form(book, form):
    """InvalidForm unless this is a Form; UnknownThing if it has a live thing that the book has not."""
    if not isinstance(form, Form):
        raise InvalidForm(form)
    for thing in form.live():
        if thing not in book.things():
            raise UnknownThing(thing)


def check_book_and_scene(book, scene):
    """InvalidBook unless this is a Book; then UnknownScene unless the scene is one of it."""
    check_book(book)
    check_scene(book.scenes(), scene)


def check_book_and_form(book, form):
    """InvalidBook unless this is a Book; then the errors of a form that is to be one of the book."""
    check_book(book)
    check_form(book, form)
