"""The judge: claims of what can be seen, and papers for them, which are checked by following them."""

from calledmidway.books import Book
from calledmidway.checks import is_form_of
from calledmidway.errors import InvalidClaim
from calledmidway.mends import are_mends, are_wishes
from calledmidway.papers import is_paper_for, paper_for
from calledmidway.parts import is_one_of
from calledmidway.planes import Plane
from calledmidway.ratios import is_number
from calledmidway.shares import KINDS

KINDS_OF_CLAIMS = (
    "at most", "more than", "at most by", "more than by", "within", "beyond", "mended", "not mended",
)


def _are_bounded(parts):
    """Tell whether these are a book, a form with things of the book, and a NUMBER."""
    if len(parts) != 3 or not isinstance(parts[0], Book):
        return False
    book, form, bound = parts
    return is_form_of(book, form) and is_number(bound)


def _are_bounded_by(parts):
    """Tell whether these are a book, a form with things of the book, a NUMBER, and a kind."""
    return len(parts) == 4 and _are_bounded(parts[:3]) and is_one_of(KINDS, parts[3])


def _are_planes(parts):
    """Tell whether these are two planes."""
    return len(parts) == 2 and all([isinstance(part, Plane) for part in parts])


def _are_planes_with_sides(parts):
    """Tell whether these are two planes, the hull of the other one having at least three corners."""
    return _are_planes(parts) and len(parts[1].corners()) >= 3


def _are_mended(parts):
    """Tell whether these are a book, wishes and mends of the book."""
    if len(parts) != 3 or not isinstance(parts[0], Book):
        return False
    book, wishes, mends = parts
    return are_wishes(book, wishes) and are_mends(book, mends)


# What may follow the first word of a claim.
SHAPES = {
    "at most": _are_bounded, "more than": _are_bounded, "at most by": _are_bounded_by, "more than by": _are_bounded_by,
    "within": _are_planes_with_sides, "beyond": _are_planes, "mended": _are_mended, "not mended": _are_mended,
}


def is_claim(value):
    """Tell whether any value is a claim."""
    if not isinstance(value, tuple) or len(value) == 0 or not is_one_of(KINDS_OF_CLAIMS, value[0]):
        return False
    fits = SHAPES[value[0]]
    return fits(value[1:])


def _check_claim(claim):
    if not is_claim(claim):
        raise InvalidClaim(claim)


def is_paper(claim, value):
    """Tell whether any value is a paper for a claim."""
    _check_claim(claim)
    return is_paper_for(claim[0], claim[1:], value)


def paper(claim):
    """Return a paper for a claim, or None if the claim is not true."""
    _check_claim(claim)
    return paper_for(claim[0], claim[1:])
