"""What is seen with rows of calls in small books, by trying all of them, for tests to hold against."""

import functools

from tests.model import full_model, plain_value, random_form, random_generator, random_model


def frozen(place):
    return tuple(sorted(place.items()))


class Levels:
    """What is seen with rows of calls of which none, one, two .. count, with waits of 0 and of all lengths.

    A state is a scene that is on and can be left, and the place. Places where a resting scene is on amid its motion are
    seen, but the scene cannot be left there.
    """

    def __init__(self, model, most):
        self.model = model
        self.states, self.seen = [], []
        self.known = set()
        rows = [(model.first, frozen(model.goals(model.first)))]
        for _ in range(most + 1):
            level = self._spread(rows)
            self.states.append(level)
            self.seen.append(self._seen(level))
            rows = [
                (scene, frozen(model.behind(scene, wait, dict(place)))) for on, place in level
                for scene in self._after(on) if scene not in model.resting for wait in model.lengths(scene)
            ]

    def _after(self, on):
        return [other for one, other in self.model.arrows if one == on]

    def _spread(self, rows):
        """The states that are new, with those that are reached from them by calls that do not count."""
        level, rows = [], list(rows)
        while rows:
            state = rows.pop()
            if state not in self.known:
                self.known.add(state)
                level.append(state)
                for scene in self._after(state[0]):
                    rest = scene in self.model.resting
                    rows.append((scene, frozen(self.model.goals(scene)) if rest else state[1]))
        return level

    def _seen(self, level):
        places = {place for _, place in level}
        for on, place in level:
            for scene in self._after(on):
                if scene in self.model.resting:
                    for wait in self.model.lengths(scene):
                        places.add(frozen(self.model.behind(scene, wait, dict(place))))
        return [dict(place) for place in sorted(places)]

    def tops(self, form):
        """The greatest value of a form in each of the levels."""
        return [max((plain_value(form, place) for place in places), default=None) for places in self.seen]

    def called(self, scene):
        """The places at which a scene can be called."""
        return [dict(place) for level in self.states for on, place in level if scene in self._after(on)]


@functools.lru_cache(None)
def small(number, many, things, scenes):
    """Some models with their books and levels, and some forms for each."""
    rng, rows = random_generator(number), []
    for at in range(many):
        model = random_model(rng, things, scenes) if at else full_model(rng, things, scenes)
        forms = [random_form(rng, model.things) for _ in range(4)]
        rows.append((model, model.book(), Levels(model, len(model.things) + (len(model.things) < 3)), forms))
    return rows


SMALL = [(91, 60, 1, 4), (92, 60, 2, 4), (93, 14, 3, 3), (94, 5, 3, 4)]


def levels_tops(levels, form):
    """The greatest values in those levels in which something new is seen."""
    return [value for value in levels.tops(form) if value is not None]
