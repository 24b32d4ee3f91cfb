"""Bundles: tuples of forms that are passed through scenes together. Nothing is checked here.

A way is what is told of a call besides its scene: with even ways a wait, otherwise the shares that are gone. A form
that is looked at alone is a bundle of one.
"""

from calledmidway.motions import bends_of, form_by, shares_behind
from calledmidway.shares import corner_shares


def key_of(form):
    """Return a tuple that is equal just for forms with equal weights."""
    weights = form.weights()
    return tuple([(thing, weights[thing].top, weights[thing].bottom) for thing in weights])


def keys_of(bundle):
    """Return a tuple that is equal just for bundles of forms with equal weights."""
    return tuple([key_of(form) for form in bundle])


def live_in(bundle):
    """Return how many weights the forms of a bundle have."""
    return sum([len(form) for form in bundle])


def _pure(bundle):
    return tuple([form.pure() for form in bundle])


def _waits(book, scene, bundle):
    """Return 0 and the bends of all forms of a bundle."""
    return [0, *sorted({bend for form in bundle for bend in bends_of(book, scene, form)})]


def _ways(book, scene, kind, bundle):
    """Return the tuples of a way that matters and of the shares that are gone by it."""
    if kind == "even":
        return [(wait, shares_behind(book, scene, wait)) for wait in _waits(book, scene, bundle)]
    return [(shares, shares) for shares in corner_shares(book, scene, kind)]


def passings_of(book, scene, kind, bundle):
    """Return the tuples of a way that matters and of the bundle passed by it."""
    return [
        (way, tuple([form_by(book, scene, shares, form) for form in bundle]))
        for way, shares in _ways(book, scene, kind, bundle)
    ]


def descent(book, kind, bundle):
    """Return the bundles below a bundle, itself among them, in the sequence in which they are found.

    For each there is a tuple of the bundle, pure, and of the dict from the reached scenes to its passings.
    """
    rows = []
    scenes = book.reached()
    waiting = [_pure(bundle)]
    found = {keys_of(bundle): True}
    # Further ones are added behind while they are gone through.
    while len(rows) < len(waiting):
        above = waiting[len(rows)]
        passings = {scene: passings_of(book, scene, kind, above) for scene in scenes}
        rows.append((above, passings))
        for scene in scenes:
            for _, below in passings[scene]:
                if keys_of(below) not in found:
                    found[keys_of(below)] = True
                    waiting.append(_pure(below))
    return rows


def values_when_left(book, scene, bundle):
    """Return the values of a bundle at each moment at which a scene is left, or None if these differ."""
    if scene in book.resting:
        goals = book.goals(scene)
        return tuple([form(goals) for form in bundle])
    if live_in(bundle) == 0:
        return tuple([form.number for form in bundle])
    return None
