"""What the document says of tables, share runs and hulls, told again with Fractions, for tests to hold against."""

import functools
from fractions import Fraction

from tests.levels import frozen
from tests.model import full_model, plain, plain_value, plain_weights, random_form, random_generator, random_model


def weights_key(weights):
    return tuple(sorted(weights.items()))


def _is_known(model, numbers, caller, weights, number, most):
    """Whether what is passed to a caller is known to be at most some number."""
    if caller in model.resting:
        goals = model.goals(caller)
        return number + sum(weight * goals[thing] for thing, weight in weights.items()) <= most
    if not weights:
        return number <= most
    key = caller, weights_key(weights)
    return key in numbers and numbers[key] + number <= most


def is_closed(model, rows, kind="even"):
    """Whether each row of a reached scene is as [53] tells it; the rows are tuples of the right kinds."""
    numbers = {(scene, weights_key(plain_weights(form))): plain(number) for scene, form, number in rows}
    reached = model.reached()
    for scene, form, number in rows:
        weights, most = plain_weights(form), plain(number)
        if scene not in reached:
            continue
        if scene == model.first and plain_value(form, model.goals(scene)) > most:
            return False
        for shares in model.ways(scene, kind, weights):
            left, more = model.passed(scene, shares, weights, Fraction(0))
            if not all(_is_known(model, numbers, caller, left, more, most) for caller in model.callers(scene)):
                return False
    return True


def least_bound(model, form, rows, kind="even"):
    """The least bound for which rows of the right kinds, no two alike, are a table; None if they never are."""
    if not is_closed(model, rows, kind):
        return None
    if not plain_weights(form):
        return plain(form.number)
    key = weights_key(plain_weights(form))
    tops = {scene: plain(number) for scene, below, number in rows if weights_key(plain_weights(below)) == key}
    if any(scene not in tops for scene in model.reached()):
        return None
    return max(tops[scene] for scene in model.reached()) + plain(form.number)


class ShareEnds:
    """All ends of share runs with corner shares: each thing is at its goal of some scene at any time."""

    def __init__(self, model, kind):
        self.model, self.kind = model, kind
        start = model.first, frozen(model.goals(model.first)), True
        self.known, waiting = {start}, [start]
        while waiting:
            on, place, free = waiting.pop()
            for scene in [other for one, other in model.arrows if one == on and free]:
                for shares in model.corner_shares(scene, kind):
                    rests = scene not in model.resting or all(shares.values())
                    state = scene, frozen(model.by_shares(scene, shares, dict(place))), rests
                    if state not in self.known:
                        self.known.add(state)
                        waiting.append(state)
        self.places = [dict(place) for place in sorted({place for _, place, _ in self.known})]

    def top(self, form):
        return max(plain_value(form, place) for place in self.places)


@functools.lru_cache(None)
def share_samples(number, many, things, scenes):
    """Some models with their books, the ends of their share runs by kind, and some forms for each."""
    rng, rows = random_generator(number), []
    for at in range(many):
        model = random_model(rng, things, scenes) if at else full_model(rng, things, scenes)
        forms = [random_form(rng, model.things) for _ in range(3)]
        rows.append((model, model.book(), {kind: ShareEnds(model, kind) for kind in ("one", "own")}, forms))
    return rows


SHARE_SAMPLES = [(191, 20, 1, 4), (192, 25, 2, 4), (193, 15, 3, 4), (194, 6, 4, 3)]


def cross(one, other, point):
    return (other[0] - one[0]) * (point[1] - one[1]) - (other[1] - one[1]) * (point[0] - one[0])


def is_between(one, other, point):
    """Whether a point lies on the stretch between two others, and is neither of them."""
    ahead = (point[0] - one[0]) * (point[0] - other[0]) + (point[1] - one[1]) * (point[1] - other[1])
    return cross(one, other, point) == 0 and ahead < 0


def hull(points):
    """The corners of the hull of some points, by turning round them from the least one."""
    points = sorted(set(points))
    if all(cross(points[0], points[-1], point) == 0 for point in points):
        return [points[0]] if len(points) == 1 else [points[0], points[-1]]
    corners, at = [], points[0]
    while not corners or at != corners[0]:
        corners.append(at)
        following = next(point for point in points if point != at)
        for point in points:
            turn = cross(at, following, point)
            if turn < 0 or (turn == 0 and is_between(at, point, following)):
                following = point
        at = following
    return corners


def is_inside(corners, point):
    """Whether a point is in a hull or on its border."""
    if len(corners) == 1:
        return point == corners[0]
    if len(corners) == 2:
        return point in corners or is_between(corners[0], corners[1], point)
    sides = zip(corners, corners[1:] + corners[:1])
    return all(cross(one, other, point) >= 0 for one, other in sides)

