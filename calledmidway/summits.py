"""Summits: the greatest values of a form and of the forms below it, while a scene is on, and the calls behind them.

A summit is a tuple (value, count, step) for a reached scene and a pure form: the greatest value, the least number of
calls that count with which it is seen, and the last call with which it is seen so. The step is None if that is at the
beginning, and otherwise a tuple (caller, wait, key): the scene that calls, the wait, and the key of the form for which
the same is to be seen at the call, or None if it is enough that the caller is on, at rest if it is a resting scene.
"""

from calledmidway.corners import forms_below, key_of
from calledmidway.leadins import quick_lead
from calledmidway.motions import passings_of


def _is_better(one, other):
    """Tell whether a summit is higher than another one, or as high with fewer calls that count."""
    value, count, _ = one
    old, most, _ = other
    return old.is_below(value) or (value == old and count < most)


def best_of(rows):
    """Return the best one of some summits, the first one of several."""
    best = rows[0]
    for row in rows:
        if _is_better(row, best):
            best = row
    return best


def _arrivals(book, found, scene, form):
    """Return the summits of a pure form in a scene, one for each last call that does not leave the form as it is."""
    rows = []
    resting, callers = book.resting, book.callers(scene)
    if scene == book.first:
        rows.append((form(book.goals(scene)), 0, None))
    for wait, below in passings_of(book, scene, form):
        count = 1 if wait > 0 and scene not in resting else 0
        for caller in callers:
            if caller in resting:
                rows.append((below(book.goals(caller)), count, (caller, wait, None)))
            elif len(below) == 0:
                rows.append((below.number, count, (caller, wait, None)))
            elif wait > 0:
                key = key_of(below)
                value, more, _ = found[caller, key]
                rows.append((below.number + value, count + more, (caller, wait, key)))
    return rows


def _spread(book, rows, key):
    """Better the summits of one form by calls with the wait 0, which leave the form as it is."""
    resting = book.resting
    arrows = [(one, other) for one, other in book.arrows() if one in rows and one not in resting]
    # A way of such calls that is worth while comes to no scene twice.
    rounds = len(rows)
    for _ in range(rounds):
        for one, other in arrows:
            value, count, _ = rows[one]
            rows[other] = best_of([rows[other], (value, count, (one, 0, key))])


def summits(book, form):
    """Return a dict from the tuples (scene, key) of the reached scenes and the forms below to the summits."""
    found = {}
    # What is passed by a bend has fewer live things, so that its summits are there already.
    for below in sorted(forms_below(book, form), key=len):
        key = key_of(below)
        rows = {scene: best_of(_arrivals(book, found, scene, below)) for scene in book.reached()}
        _spread(book, rows, key)
        for scene in rows:
            found[scene, key] = rows[scene]
    return found


def calls_up(book, found, scene, key):
    """Return the list of calls, from the beginning on, behind which a summit is seen."""
    calls = []
    _, _, step = found[scene, key]
    while step is not None:
        caller, wait, key = step
        calls = [(scene, wait), *calls]
        if key is None:
            return [*quick_lead(book, caller), *calls]
        scene = caller
        _, _, step = found[scene, key]
    return calls
