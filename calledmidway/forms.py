"""Forms: sums of things with weights, and a number."""

from calledmidway.errors import InvalidForm, InvalidName, InvalidNumber, InvalidPlace, InvalidWeights
from calledmidway.ratios import Ratio, as_ratio, is_integer, is_name, is_number


def maps_names_to_numbers(value):
    """Tell whether any value is a dict from NAMES to NUMBERS."""
    if not isinstance(value, dict):
        return False
    return all([is_name(name) and is_number(value[name]) for name in value])


def _summed(weights, more):
    """Return the sums of the weights of two forms, sums of 0 among them."""
    found = dict(weights)
    for name in more:
        found[name] = found.get(name, 0) + more[name]
    return found


class Form:
    """Weights for things, and a number: a value for each place."""

    def __init__(self, weights=None, number=0):
        if weights is None:
            weights = {}
        if not maps_names_to_numbers(weights):
            raise InvalidWeights(weights)
        self._number = as_ratio(number)
        ratios = {name: as_ratio(weights[name]) for name in sorted(weights)}
        self._weights = {name: ratios[name] for name in ratios if ratios[name].sign != 0}

    @classmethod
    def of(cls, *names):
        """Return the sum of these things, each with the weight 1."""
        weights = {}
        for name in names:
            if not is_name(name):
                raise InvalidName(name)
            weights[name] = weights.get(name, 0) + 1
        return Form(weights)

    def weights(self):
        """Return a new dict from the live things to their weights."""
        return dict(self._weights)

    def weight(self, name):
        """Return the weight of a thing, 0 if it is not live."""
        if not is_name(name):
            raise InvalidName(name)
        return self._weights.get(name, Ratio(0))

    @property
    def number(self):
        """What is added to the sum of the things."""
        return self._number

    def live(self):
        """Return the sorted list of the live things."""
        return list(self._weights)

    def __len__(self):
        return len(self._weights)

    def __contains__(self, value):
        # A value that cannot be a key, such as a list, must be asked for, too.
        return is_name(value) and value in self._weights

    def pure(self):
        """Return the form with the same weights and the number 0."""
        return Form(self._weights)

    def __add__(self, other):
        if isinstance(other, Form):
            return Form(_summed(self._weights, other._weights), self._number + other._number)
        if not is_number(other):
            raise InvalidForm(other)
        return Form(self._weights, self._number + other)

    def __radd__(self, other):
        if not is_integer(other):
            return NotImplemented
        return self + other

    def __sub__(self, other):
        # What has a sign of its own, such as True, must not be turned into a number.
        if not isinstance(other, Form) and not is_number(other):
            raise InvalidForm(other)
        return self + -other

    def __rsub__(self, other):
        if not is_integer(other):
            return NotImplemented
        return -self + other

    def __mul__(self, other):
        if not is_number(other):
            raise InvalidNumber(other)
        weights = {name: self._weights[name] * other for name in self._weights}
        return Form(weights, self._number * other)

    def __rmul__(self, other):
        if not is_integer(other):
            return NotImplemented
        return self * other

    def __neg__(self):
        return self * -1

    def __call__(self, place):
        """Return the value at a place that has all live things."""
        if not maps_names_to_numbers(place) or not all([name in place for name in self._weights]):
            raise InvalidPlace(place)
        found = self._number
        for name in self._weights:
            found = found + self._weights[name] * place[name]
        return found

    def __eq__(self, other):
        return isinstance(other, Form) and self._weights == other._weights and self._number == other._number

    def __repr__(self):
        return f"Form({self._weights!r}, {self._number!r})"
