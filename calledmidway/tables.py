"""Bound tables: papers for the bounds that are kept."""

from calledmidway.checks import check_book_and_form
from calledmidway.closings import is_table, least_bound, table_of
from calledmidway.ratios import as_ratio


def bound_table(book, form, bound):
    """Return a bound table for a form and a bound, or None if the bound is broken."""
    check_book_and_form(book, form)
    return table_of(book, form, as_ratio(bound), "even")


def is_bound_table(book, form, bound, value):
    """Tell whether any value is a bound table for a form and a bound."""
    check_book_and_form(book, form)
    return is_table(book, form, as_ratio(bound), "even", value)


def table_bound(book, form, value):
    """Return the least bound for which any value is a bound table for a form, or None."""
    check_book_and_form(book, form)
    return least_bound(book, form, "even", value)
