"""What the document says of books and runs, told again by Python's own rational numbers, for tests to hold against."""

import itertools
import random
from fractions import Fraction

from calledmidway.books import Book
from calledmidway.forms import Form
from calledmidway.ratios import Ratio

SCENES = {"open": {"d": (100, 2), "l": (100, 4)}, "shut": {"d": (0, 4), "l": (0, 2)}}
GAP = Form.of("d") - Form.of("l")


def example_book(resting=()):
    return Book(["d", "l"], SCENES, [("open", "shut"), ("shut", "open")], "shut", resting)


def plain(number):
    return Fraction(number.top, number.bottom) if isinstance(number, Ratio) else Fraction(number)


def ratio(number):
    return Ratio(Fraction(number).numerator, Fraction(number).denominator)


def plain_place(place):
    return {thing: plain(place[thing]) for thing in place}


def plain_weights(form):
    return {thing: plain(weight) for thing, weight in form.weights().items()}


def plain_value(form, place):
    weights = plain_weights(form)
    return sum((weights[thing] * place[thing] for thing in weights), plain(form.number))


class Model:
    """A book as the document tells it, with plain dicts and Fractions."""

    def __init__(self, things, scenes, arrows, first, resting=()):
        self.things, self.scenes, self.arrows = sorted(things), scenes, sorted(arrows)
        self.first, self.resting = first, sorted(resting)

    def book(self):
        return Book(self.things, self.scenes, self.arrows, self.first, self.resting)

    def reached(self):
        found, more = set(), {self.first}
        while more:
            found |= more
            more = {other for one, other in self.arrows if one in found} - found
        return sorted(found)

    def callers(self, scene):
        return [one for one in self.reached() if (one, scene) in self.arrows]

    def goals(self, scene):
        return {thing: Fraction(self.scenes[scene][thing][0]) for thing in self.things}

    def longest(self, scene):
        return max(length for goal, length in self.scenes[scene].values())

    def lengths(self, scene):
        return sorted({length for goal, length in self.scenes[scene].values()})

    def behind(self, scene, wait, place):
        """The place a wait behind a call at a place."""
        found = {}
        for thing in self.things:
            goal, length = self.scenes[scene][thing]
            found[thing] = place[thing] + (goal - place[thing]) * min(Fraction(1), Fraction(wait) / length)
        return found

    def pace(self, scene, since, place, form):
        """The pace just behind the time since behind a call at a place."""
        found = Fraction(0)
        for thing, weight in plain_weights(form).items():
            goal, length = self.scenes[scene][thing]
            if since < length:
                found += weight * (goal - place[thing]) / length
        return found

    def why_not(self, calls):
        """The position and the cause of the first call that is not allowed, or None."""
        on, passed = self.first, None
        for position, (scene, wait) in enumerate(calls):
            if (on, scene) not in self.arrows:
                return position, ("NoArrow", on, scene)
            if passed is not None and on in self.resting and passed < self.longest(on):
                return position, ("TooEarly", on)
            on, passed = scene, plain(wait)
        return None

    def walk(self, calls):
        """The tuples (scene, wait, place, moment) of calls, and the place and the moment of the end."""
        place, moment, rows = self.goals(self.first), Fraction(0), []
        for scene, wait in calls:
            rows.append((scene, plain(wait), place, moment))
            place, moment = self.behind(scene, plain(wait), place), moment + plain(wait)
        return rows, place, moment

    def seen(self, calls, moment):
        """The scene that is on and the place at a moment."""
        rows, _, _ = self.walk(calls)
        scene, place = self.first, self.goals(self.first)
        for name, wait, begun, start in rows:
            if start <= moment:
                scene, place = name, self.behind(name, min(wait, moment - start), begun)
        return scene, place

    def by_shares(self, scene, shares, place):
        """The place behind a call at a place when these shares are gone."""
        goals = self.goals(scene)
        return {thing: place[thing] + (goals[thing] - place[thing]) * shares[thing] for thing in self.things}

    def shares(self, scene, wait):
        lengths = {thing: self.scenes[scene][thing][1] for thing in self.things}
        return {thing: min(Fraction(1), Fraction(wait) / lengths[thing]) for thing in self.things}

    def are_right(self, scene, kind, shares):
        """Whether shares, Fractions from 0 to 1 for all things, are right for a kind."""
        lengths = {thing: self.scenes[scene][thing][1] for thing in self.things}
        if kind == "even":
            waits = [shares[thing] * lengths[thing] for thing in self.things] + [self.longest(scene)]
            return any(shares == self.shares(scene, wait) for wait in waits)
        if kind == "one":
            order = sorted(self.things, key=lambda thing: lengths[thing])
            falling = [shares[thing] for thing in order]
            equal = {(lengths[thing], shares[thing]) for thing in self.things}
            return falling == sorted(falling, reverse=True) and len(equal) == len(set(lengths.values()))
        return True

    def corner_shares(self, scene, kind):
        """The right shares with 0 and 1 alone, sorted as tuples."""
        rows = [dict(zip(self.things, row)) for row in itertools.product((0, 1), repeat=len(self.things))]
        return [row for row in rows if self.are_right(scene, kind, row)]

    def ways(self, scene, kind, things):
        """The shares of the waits 0 and the lengths of these things, or the corner shares of another kind."""
        if kind != "even":
            return self.corner_shares(scene, kind)
        return [self.shares(scene, wait) for wait in sorted({0} | {self.scenes[scene][thing][1] for thing in things})]

    def passed(self, scene, shares, weights, number):
        """The weights and the number of a form that is passed by shares."""
        goals = self.goals(scene)
        for thing, weight in weights.items():
            number = number + weight * shares[thing] * goals[thing]
        kept = {thing: weight * (1 - shares[thing]) for thing, weight in weights.items() if shares[thing] != 1}
        return kept, number

    def counting(self, calls):
        return sum(1 for scene, wait in calls if scene not in self.resting and plain(wait) > 0)


def random_model(rng, most_things=4, most_scenes=6, size=12):
    while True:
        things = rng.sample(["a", "d", "l", "v"], rng.randint(1, most_things))
        names = rng.sample(["a", "d", "hide", "open", "shut", "zoom"], rng.randint(1, most_scenes))
        if len(things) * len(names) <= 15:
            break
    scenes = {
        name: {thing: (rng.randint(-size, size), rng.randint(1, 6)) for thing in things} for name in names
    }
    pairs = list(itertools.product(names, names))
    share = rng.choice([0.2, 0.5, 0.9, 1.1])
    arrows = [pair for pair in pairs if rng.random() < share]
    resting = [name for name in names if rng.random() < rng.choice([0, 0.3, 0.6])]
    return Model(things, scenes, arrows, rng.choice(names), resting)


def full_model(rng, things, scenes):
    """A model with just so many things and scenes, and all arrows."""
    things, names = ["a", "d", "l", "v"][:things], ["a", "d", "open", "shut", "zoom", "hide"][:scenes]
    motions = {name: {thing: (rng.randint(-12, 12), rng.randint(1, 6)) for thing in things} for name in names}
    return Model(things, motions, list(itertools.product(names, names)), rng.choice(names),
                 [name for name in names if rng.random() < 0.2])


def random_form(rng, things):
    weights = {thing: Ratio(rng.randint(-4, 4), rng.randint(1, 3)) for thing in things if rng.random() < 0.9}
    return Form(weights, Ratio(rng.randint(-5, 5), rng.randint(1, 3)))


def random_wait(rng, longest):
    return rng.choice([0, 0, 1, longest, rng.randint(0, longest + 2), Ratio(rng.randint(0, 3 * longest), 2),
                       Ratio(rng.randint(0, 20), 3)])


def random_calls(rng, model, most=6):
    """Calls that are allowed, as many as there can be up to most."""
    on, by_call, calls = model.first, False, []
    while len(calls) < most:
        nexts = [other for one, other in model.arrows if one == on]
        if not nexts:
            break
        if by_call and on in model.resting:
            calls[-1] = (on, model.longest(on) + rng.choice([0, 0, 1, Ratio(1, 2)]))
        on, by_call = rng.choice(nexts), True
        calls.append((on, random_wait(rng, model.longest(on))))
    return calls


def random_generator(number):
    return random.Random(number)
