"""Hulls: the smallest convex polygons around points. Nothing is checked here.

A point is a tuple of two Ratios. The corners of a hull stand counter-clockwise, the least one first. A mark is a tuple
that begins with a point.
"""

from calledmidway.ratios import Ratio


def _area(one, other, point):
    """Return twice the area of a triangle, below 0 if its corners stand clockwise."""
    (x, y), (u, v), (p, q) = one, other, point
    return (u - x) * (q - y) - (v - y) * (p - x)


def turn(one, other, point):
    """Return 1 if a point lies to the left of the way from one to other, -1 to the right, 0 in line with it."""
    return _area(one, other, point).sign


def _is_ahead(one, other):
    """Tell whether one point is less than another one, compared as pairs of numbers."""
    (x, y), (u, v) = one, other
    return x.is_below(u) or (x == u and y.is_below(v))


def _merged(marks, more):
    """Return the marks of two lists with ascending points as one such list, each point once."""
    rows, position = [], 0
    for mark in marks:
        while position < len(more) and _is_ahead(more[position][0], mark[0]):
            rows.append(more[position])
            position = position + 1
        if position < len(more) and more[position][0] == mark[0]:
            position = position + 1
        rows.append(mark)
    return [*rows, *more[position:]]


def _in_sequence(marks):
    """Return a list of the marks with ascending points, each point once."""
    if len(marks) < 2:
        return marks
    middle = len(marks) // 2
    return _merged(_in_sequence(marks[:middle]), _in_sequence(marks[middle:]))


def _lower_side(marks):
    """Return the marks at the corners to the right of the way along a list that goes from one end to the other."""
    kept = []
    for mark in marks:
        while len(kept) > 1 and turn(kept[-2][0], kept[-1][0], mark[0]) < 1:
            kept.pop()
        kept.append(mark)
    return kept


def corner_marks(marks):
    """Return the list of the marks at the corners of the hull of their points."""
    rows = _in_sequence(marks)
    if len(rows) < 2:
        return rows
    return [*_lower_side(rows)[:-1], *_lower_side(rows[::-1])[:-1]]


def _times(one, other):
    """Return the sum of the products of the numbers of two points."""
    (x, y), (u, v) = one, other
    return x * u + y * v


def sides_of(corners):
    """Return the list of the tuples of a corner and the next one, the first one following the last one."""
    return list(zip(corners, [*corners[1:], corners[0]]))


def parting_weights(corners, point):
    """Return two Ratios with which a point comes to more than all corners, or None if it is in the hull."""
    for (x, y), (u, v) in sides_of(corners):
        if turn((x, y), (u, v), point) < 0:
            return v - y, x - u
    p, q = point
    # A point may also lie beyond the end of a stretch, or beside the only corner.
    ahead = [(p - x, q - y) for x, y in corners] if len(corners) < 3 else []
    for weights in ahead:
        if all([_times(weights, corner).is_below(_times(weights, point)) for corner in corners]):
            return weights
    return None


def _mix_of_stretch(one, other, point):
    """Return the numbers with which the ends of a stretch give a point on it."""
    (x, y), (u, v), (p, q) = one, other, point
    share = (q - y).over(v - y) if x == u else (p - x).over(u - x)
    return [1 - share, share]


def mix_of(corners, point):
    """Return the list of the numbers with which the corners give a point in the hull."""
    if len(corners) == 1:
        return [Ratio(1)]
    if len(corners) == 2:
        return _mix_of_stretch(corners[0], corners[1], point)
    first = corners[0]
    for position in range(1, len(corners) - 1):
        one, other = corners[position], corners[position + 1]
        areas = [_area(one, other, point), _area(other, first, point), _area(first, one, point)]
        if all([area.sign >= 0 for area in areas]):
            break
    shares = [area.over(_area(first, one, other)) for area in areas]
    found = [Ratio(0) for _ in corners]
    found[0], found[position], found[position + 1] = shares
    return found
