"""Papers: what proves the claims, to be checked by following it, and how it is made. Nothing is checked of claims here.

Parts are what follows the first word of a claim.
"""

from calledmidway.bounds import greatest, peak
from calledmidway.hulls import sides_of, turn
from calledmidway.mends import broken_run, mended
from calledmidway.parts import is_list, is_pair
from calledmidway.planes import is_within, parting
from calledmidway.ratios import as_ratio, is_integer
from calledmidway.runs import Run
from calledmidway.shares import ShareRun
from calledmidway.tables import bound_table, is_bound_table, table_bound
from calledmidway.ways import greatest_by, is_table_by, peak_by, table_by


def _is_run_of(book, value):
    return isinstance(value, Run) and value.book == book


def _ends_above(run, form, bound):
    """Tell whether a form is greater than a bound at the end of a run or a share run."""
    return as_ratio(bound).is_below(form(run.end()))


def _is_at_most(parts, value):
    """Tell whether any value is a bound table."""
    book, form, bound = parts
    return is_bound_table(book, form, bound, value)


def _at_most(parts):
    """Return a bound table, or None."""
    book, form, bound = parts
    return bound_table(book, form, bound)


def _is_more_than(parts, value):
    """Tell whether any value is a run at whose end the form is greater than the bound."""
    book, form, bound = parts
    return _is_run_of(book, value) and _ends_above(value, form, bound)


def _more_than(parts):
    """Return a run at whose end the form is greater than the bound, or None."""
    book, form, bound = parts
    found = broken_run(book, [(form, bound)])
    return None if found is None else found[1]


def _is_at_most_by(parts, value):
    """Tell whether any value is a bound table by the kind."""
    book, form, bound, kind = parts
    return is_table_by(book, form, bound, kind, value)


def _at_most_by(parts):
    """Return a bound table by the kind, or None."""
    book, form, bound, kind = parts
    return table_by(book, form, bound, kind)


def _is_more_than_by(parts, value):
    """Tell whether any value is a share run of the kind at whose end the form is greater than the bound."""
    book, form, bound, kind = parts
    if not isinstance(value, ShareRun) or value.book != book or value.kind != kind:
        return False
    return _ends_above(value, form, bound)


def _more_than_by(parts):
    """Return a share run of the kind at whose end the form is greater than the bound, or None."""
    book, form, bound, kind = parts
    if not as_ratio(bound).is_below(greatest_by(book, form, kind)):
        return None
    return peak_by(book, form, kind)


def _are_tables(book, wishes, value):
    """Tell whether any value is a list of bound tables, one for each wish."""
    if not is_list(value) or len(value) != len(wishes):
        return False
    return all([is_bound_table(book, form, bound, table) for (form, bound), table in zip(wishes, value)])


def _tables_for(book, wishes):
    """Return a list of bound tables, one for each wish, or None if a wish is broken."""
    found = [bound_table(book, form, bound) for form, bound in wishes]
    return found if all([table is not None for table in found]) else None


def _go_round(points):
    """Tell whether from each point to the next one, all other points lie strictly to the left."""
    for position in range(len(points)):
        one, other, *rest = [*points[position:], *points[:position]]
        if not all([turn(one, other, point) > 0 for point in rest]):
            return False
    return True


def _wishes_beside(plane, points):
    """Return the wishes that say: what is seen in the plane lies to the left of each side, or on it."""
    return [
        (plane.first * (v - y) + plane.second * (x - u), (v - y) * x + (x - u) * y)
        for (x, y), (u, v) in sides_of(points)
    ]


def _is_within_paper(parts, value):
    """Tell whether any value is runs to points around all of the plane one, and the tables for this."""
    one, other = parts
    if not is_pair(value) or not is_list(value[0]):
        return False
    runs, tables = value
    if len(runs) < 3 or not all([_is_run_of(other.book, run) for run in runs]):
        return False
    points = [other.point(run.end()) for run in runs]
    return _go_round(points) and _are_tables(one.book, _wishes_beside(one, points), tables)


def _within_paper(parts):
    """Return the runs to the corners of the plane other, and the tables for its sides, or None."""
    one, other = parts
    if not is_within(one, other):
        return None
    corners = other.corners()
    return [other.run_to(corner) for corner in corners], _tables_for(one.book, _wishes_beside(one, corners))


def _summed(plane, times, more):
    """Return the sum of the forms of a plane, each multiplied by an INTEGER."""
    return plane.first * times + plane.second * more


def _is_beyond_paper(parts, value):
    """Tell whether any value is a sum of the forms that is greater at the end of a run than a table lets it be."""
    one, other = parts
    if not isinstance(value, tuple) or len(value) != 4:
        return False
    times, more, run, table = value
    if not is_integer(times) or not is_integer(more) or not _is_run_of(one.book, run):
        return False
    form = _summed(one, times, more)
    bound = table_bound(other.book, _summed(other, times, more), table)
    return bound is not None and _ends_above(run, form, bound)


def _beyond_paper(parts):
    """Return integers, a run and a table by which the plane one is not within the plane other, or None."""
    one, other = parts
    found = parting(one, other)
    if found is None:
        return None
    times, more = found
    form = _summed(other, times, more)
    table = bound_table(other.book, form, greatest(other.book, form))
    return times, more, peak(one.book, _summed(one, times, more)), table


def _is_mended_paper(parts, value):
    """Tell whether any value is a list of bound tables of the mended book, one for each wish."""
    book, wishes, mends = parts
    return _are_tables(mended(book, mends), wishes, value)


def _mended_paper(parts):
    """Return a list of bound tables of the mended book, one for each wish, or None."""
    book, wishes, mends = parts
    return _tables_for(mended(book, mends), wishes)


def _is_not_mended_paper(parts, value):
    """Tell whether any value is the position of a wish and a run of the mended book that breaks it."""
    book, wishes, mends = parts
    if not is_pair(value) or not is_integer(value[0]) or not _is_run_of(mended(book, mends), value[1]):
        return False
    position, run = value
    if position < 0 or position >= len(wishes):
        return False
    form, bound = wishes[position]
    return _ends_above(run, form, bound)


def _not_mended_paper(parts):
    """Return the position of a wish and a run of the mended book that breaks it, or None."""
    book, wishes, mends = parts
    return broken_run(mended(book, mends), wishes)


# By the first words of the claims.
CHECKS = {
    "at most": _is_at_most, "more than": _is_more_than, "at most by": _is_at_most_by,
    "more than by": _is_more_than_by, "within": _is_within_paper, "beyond": _is_beyond_paper,
    "mended": _is_mended_paper, "not mended": _is_not_mended_paper,
}
MAKERS = {
    "at most": _at_most, "more than": _more_than, "at most by": _at_most_by, "more than by": _more_than_by,
    "within": _within_paper, "beyond": _beyond_paper, "mended": _mended_paper, "not mended": _not_mended_paper,
}


def is_paper_for(word, parts, value):
    """Tell whether any value is a paper for a claim."""
    check = CHECKS[word]
    return check(parts, value)


def paper_for(word, parts):
    """Return a paper for a claim, or None if the claim is not true."""
    make = MAKERS[word]
    return make(parts)
