import itertools
import unittest
from fractions import Fraction

from calledmidway.errors import InvalidForm, InvalidName, InvalidNumber, InvalidPlace, InvalidWeights
from calledmidway.forms import Form
from calledmidway.ratios import Ratio
from tests.values import NAMES, NO_NAMES, NO_NUMBERS, NUMBERS, Other, told

NO_DICTS = [True, False, 0, 1, "", "d", b"d", [], ["d"], [("d", 1)], (), ("d", 1), set(), {"d"},
            Ratio(0), Form(), Form.of("d"), Other(), Other, dict]
WRONG_DICTS = [{value: 1} for value in NO_NAMES if value.__class__.__hash__] + [{"d": value} for value in NO_NUMBERS]
FORMS = [
    Form(), Form(None, 3), Form(None, Ratio(-1, 2)), Form.of("d"), Form.of("d", "l"), Form({"d": 1, "l": -1}, 3),
    Form({"l": Ratio(2, 3), "v": -4}, Ratio(7, 5)), Form({"d": -1}), Form({"d": Ratio(1, 10 ** 30)}, 10 ** 30),
]


def parts(form):
    """Tell a form by Python's own rational numbers."""
    weights = {name: Fraction(ratio.top, ratio.bottom) for name, ratio in form.weights().items()}
    return weights, Fraction(form.number.top, form.number.bottom)


def plain(number):
    return Fraction(number.top, number.bottom) if isinstance(number, Ratio) else Fraction(number)


def summed(one, other, sign=1):
    weights = dict(one[0])
    for name, weight in other[0].items():
        weights[name] = weights.get(name, 0) + sign * weight
    return {name: weight for name, weight in weights.items() if weight}, one[1] + sign * other[1]


def times(one, number):
    return {name: weight * number for name, weight in one[0].items() if weight * number}, one[1] * number


class FormCase(unittest.TestCase):
    def assert_form(self, found, expected):
        self.assertIs(found.__class__, Form)
        self.assertEqual(parts(found), expected)
        for number in [found.number] + list(found.weights().values()):
            self.assertIs(number.__class__, Ratio)
        self.assertEqual(list(found.weights()), sorted(expected[0]))


class MadeTest(FormCase):
    def test_of_nothing(self):
        for form in (Form(), Form(None), Form({}), Form(None, 0), Form(weights=None), Form(number=0), Form.of()):
            self.assert_form(form, ({}, 0))

    def test_of_weights_in_any_sequence(self):
        entries = [("d", 1), ("l", Ratio(-3, 2)), ("a", 10 ** 30), ("drawer", Ratio(4, 2))]
        expected = {"a": Fraction(10 ** 30), "d": Fraction(1), "drawer": Fraction(2), "l": Fraction(-3, 2)}
        for turned in itertools.permutations(entries):
            form = Form(dict(turned), Ratio(1, 3))
            self.assert_form(form, (expected, Fraction(1, 3)))
            self.assertEqual(form.live(), ["a", "d", "drawer", "l"])
            self.assertEqual(repr(form), repr(Form(dict(entries), Ratio(1, 3))))

    def test_weights_of_zero_are_left_out(self):
        form = Form({"z": 0, "d": 1, "a": Ratio(0, 7)}, 2)
        self.assert_form(form, ({"d": Fraction(1)}, 2))
        self.assertEqual((form.live(), len(form), "z" in form), (["d"], 1, False))
        self.assertEqual(form, Form({"d": 1}, 2))

    def test_by_name(self):
        expected = Form({"d": 1}, 2)
        self.assertEqual(Form(weights={"d": 1}, number=2), expected)
        self.assertEqual(Form(number=2, weights={"d": 1}), expected)
        self.assertEqual(Form({"d": 1}, number=2), expected)
        self.assert_form(Form(number=Ratio(1, 2)), ({}, Fraction(1, 2)))

    def test_of_names(self):
        self.assert_form(Form.of("d"), ({"d": 1}, 0))
        self.assert_form(Form.of("l", "d", "v"), ({"d": 1, "l": 1, "v": 1}, 0))
        self.assert_form(Form.of("l", "d", "l", "l"), ({"d": 1, "l": 3}, 0))
        self.assert_form(Form.of(*NAMES), ({name: 1 for name in NAMES}, 0))
        self.assert_form(Form.of("d").of("l"), ({"l": 1}, 0))

    def test_the_weights_passed_may_be_changed_later(self):
        weights = {"l": -1, "d": 1}
        form = Form(weights, 3)
        self.assertEqual(list(weights.items()), [("l", -1), ("d", 1)])
        weights["d"] = 7
        weights["v"] = 1
        del weights["l"]
        self.assertEqual(repr(form), "Form({'d': Ratio(1, 1), 'l': Ratio(-1, 1)}, Ratio(3, 1))")

    def test_refused_weights(self):
        for value in NO_DICTS + WRONG_DICTS:
            self.assertIs(told(lambda: Form(value), InvalidWeights).value, value)
            self.assertIs(told(lambda: Form(weights=value, number=3), InvalidWeights).value, value)

    def test_one_wrong_entry_among_right_ones(self):
        for wrong in WRONG_DICTS:
            for weights in ({"a": 1, **wrong, "z": Ratio(1, 2)}, {"z": 0, "a": 2, **wrong}):
                self.assertIs(told(lambda: Form(weights), InvalidWeights).value, weights)

    def test_refused_numbers(self):
        for value in NO_NUMBERS:
            self.assertIs(told(lambda: Form(None, value), InvalidNumber).value, value)
            self.assertIs(told(lambda: Form({"d": 1}, value), InvalidNumber).value, value)
            self.assertIs(told(lambda: Form(number=value), InvalidNumber).value, value)

    def test_of_two_wrong_parameters_the_first_is_told(self):
        for weights in NO_DICTS + WRONG_DICTS:
            self.assertIs(told(lambda: Form(weights, "x"), InvalidWeights).value, weights)
            self.assertIs(told(lambda: Form(number=None, weights=weights), InvalidWeights).value, weights)

    def test_refused_names(self):
        for value in NO_NAMES:
            self.assertIs(told(lambda: Form.of(value), InvalidName).value, value)
            self.assertIs(told(lambda: Form.of("d", "l", value, "D", None), InvalidName).value, value)


class AskedTest(FormCase):
    def setUp(self):
        self.form = Form({"l": Ratio(-1, 2), "d": 3}, Ratio(5, 2))

    def test_weights_number_and_live_things(self):
        self.assertEqual(self.form.weights(), {"d": Ratio(3), "l": Ratio(-1, 2)})
        self.assertEqual(list(self.form.weights()), ["d", "l"])
        self.assertEqual(self.form.number, Ratio(5, 2))
        self.assertEqual(self.form.live(), ["d", "l"])
        self.assertEqual([len(self.form), len(Form()), len(Form(None, 3)), len(Form.of("a"))], [2, 0, 0, 1])
        self.assertIs(self.form.live().__class__, list)
        self.assertIs(self.form.weights().__class__, dict)

    def test_weight(self):
        self.assertEqual(self.form.weight("d"), Ratio(3))
        self.assertEqual(self.form.weight(name="l"), Ratio(-1, 2))
        for name in ("v", "a", "abcdefgh"):
            self.assertEqual(self.form.weight(name), Ratio(0))
        for name in NO_NAMES:
            self.assertIs(told(lambda: self.form.weight(name), InvalidName).value, name)
            self.assertIs(told(lambda: self.form.weight(name=name), InvalidName).value, name)

    def test_in(self):
        self.assertIs("d" in self.form, True)
        self.assertIs("l" in self.form, True)
        self.assertIs("v" in self.form, False)
        for value in NO_NAMES + NO_NUMBERS + NO_DICTS + NUMBERS:
            self.assertIs(value in self.form, value.__class__ is str and value in ("d", "l"))

    def test_the_number_cannot_be_assigned(self):
        with self.assertRaises(AttributeError):
            self.form.number = 1
        self.assertEqual(self.form.number, Ratio(5, 2))

    def test_pure(self):
        for form in FORMS:
            self.assert_form(form.pure(), (parts(form)[0], 0))
            self.assertEqual(form.pure().pure(), form.pure())
        self.assertEqual(self.form.pure() + Ratio(5, 2), self.form)

    def test_what_is_returned_may_be_changed(self):
        before = repr(self.form)
        weights, live = self.form.weights(), self.form.live()
        weights["d"] = Ratio(0)
        weights["v"] = Ratio(1)
        live.append("v")
        live.remove("d")
        self.assertEqual(repr(self.form), before)
        self.assertEqual(self.form.weights(), {"d": Ratio(3), "l": Ratio(-1, 2)})
        self.assertEqual(self.form.live(), ["d", "l"])
        self.assertIsNot(self.form.weights(), self.form.weights())
        self.assertIsNot(self.form.live(), self.form.live())

    def test_a_pure_form_shares_nothing_with_what_it_was_made_of(self):
        pure = self.form.pure()
        pure.weights().clear()
        self.assertEqual(self.form.pure(), pure)
        self.assertEqual(len(self.form), 2)

    def test_equal(self):
        self.assertTrue(Form({"d": 1, "l": 2}, 3) == Form({"l": Ratio(4, 2), "d": 1, "v": 0}, Ratio(3)))
        self.assertFalse(Form({"d": 1, "l": 2}, 3) != Form({"l": 2, "d": 1}, 3))
        for one, other in itertools.permutations(FORMS, 2):
            self.assertIs(one == other, False)
            self.assertIs(one != other, True)
        self.assertEqual(FORMS.index(Form({"l": -1, "d": 1}, 3)), 5)

    def test_not_equal_to_values_of_another_kind(self):
        for value in [0, 1, None, {}, {"d": Ratio(1)}, "d", ["d"], ("d",), Ratio(0), Ratio(3), Other(),
                      "Form({}, Ratio(0, 1))", ({"d": Ratio(1)}, Ratio(0))]:
            for form in FORMS:
                self.assertIs(form == value, False)
                self.assertIs(value == form, False)
                self.assertIs(form != value, True)

    def test_repr(self):
        self.assertEqual(repr(Form.of("d")), "Form({'d': Ratio(1, 1)}, Ratio(0, 1))")
        self.assertEqual(repr(Form()), "Form({}, Ratio(0, 1))")
        self.assertEqual(repr(self.form), "Form({'d': Ratio(3, 1), 'l': Ratio(-1, 2)}, Ratio(5, 2))")

    def test_the_methods_stand_in_the_class(self):
        for name in ("of", "weights", "weight", "number", "live", "__len__", "__contains__", "pure", "__add__",
                     "__radd__", "__sub__", "__rsub__", "__mul__", "__rmul__", "__neg__", "__call__", "__eq__",
                     "__repr__"):
            self.assertIn(name, vars(Form))
        self.assertEqual(Form.__module__, "calledmidway.forms")


class ReckoningTest(FormCase):
    def test_two_forms(self):
        for one, other in itertools.product(FORMS, FORMS):
            self.assert_form(one + other, summed(parts(one), parts(other)))
            self.assert_form(one - other, summed(parts(one), parts(other), -1))

    def test_a_form_and_a_number(self):
        for form, number in itertools.product(FORMS, NUMBERS):
            alone = ({}, plain(number))
            self.assert_form(form + number, summed(parts(form), alone))
            self.assert_form(form - number, summed(parts(form), alone, -1))
            self.assert_form(form * number, times(parts(form), plain(number)))

    def test_an_integer_on_the_left(self):
        for form, number in itertools.product(FORMS, [0, 1, -1, 7, -12, 10 ** 30]):
            alone = ({}, Fraction(number))
            self.assert_form(number + form, summed(alone, parts(form)))
            self.assert_form(number - form, summed(alone, parts(form), -1))
            self.assert_form(number * form, times(parts(form), number))

    def test_minus_in_front(self):
        for form in FORMS:
            self.assert_form(-form, times(parts(form), -1))

    def test_weights_that_come_to_zero(self):
        one, other = Form({"d": 1, "l": Ratio(1, 2)}, 3), Form({"d": -1, "l": Ratio(1, 2)}, 1)
        self.assert_form(one + other, ({"l": Fraction(1)}, 4))
        self.assert_form(one - other, ({"d": Fraction(2)}, 2))
        self.assert_form(one - one, ({}, 0))
        self.assert_form(one * 0, ({}, 0))
        self.assert_form(0 * one, ({}, 0))
        self.assert_form(one * Ratio(0), ({}, 0))
        self.assertEqual([len(one - one), (one + other).live(), "d" in one + other], [0, ["l"], False])

    def test_refused_on_the_right_of_plus_and_minus(self):
        form = Form({"d": 1}, 3)
        for value in NO_NUMBERS:
            if isinstance(value, Form):
                continue
            self.assertIs(told(lambda: form + value, InvalidForm).value, value)
            self.assertIs(told(lambda: form - value, InvalidForm).value, value)
        self.assertEqual(form, Form({"d": 1}, 3))

    def test_refused_on_the_right_of_times(self):
        form = Form({"d": 1}, 3)
        for value in NO_NUMBERS + [form]:
            self.assertIs(told(lambda: form * value, InvalidNumber).value, value)
        for value in NO_NUMBERS:
            self.assertIs(told(lambda: Form() * value, InvalidNumber).value, value)
        self.assertEqual(form, Form({"d": 1}, 3))

    def test_only_integers_are_taken_on_the_left(self):
        for value in (True, False, None, "1", [1], (1,), Other()):
            for action in (lambda: value + Form(), lambda: value - Form(), lambda: value * Form()):
                self.assertRaises((TypeError, InvalidForm, InvalidNumber), action)

    def test_what_was_reckoned_with_stays(self):
        one, other = Form({"d": 1}, 3), Form({"d": 2, "l": 1}, 1)
        kept, before = one, [repr(one), repr(other)]
        one += other
        self.assertEqual(one, Form({"d": 3, "l": 1}, 4))
        self.assertEqual([repr(kept), repr(other)], before)
        one -= 4
        one *= 2
        self.assertEqual(one, Form({"d": 6, "l": 2}))
        self.assertEqual([repr(kept), repr(other)], before)
        for _ in range(2):
            self.assertEqual(kept - other, Form({"d": -1, "l": -1}, 2))
            self.assertEqual(-other, Form({"d": -2, "l": -1}, -1))
            self.assertEqual([repr(kept), repr(other)], before)


class ValueTest(FormCase):
    def setUp(self):
        self.form = Form({"d": 2, "l": Ratio(-1, 2)}, 3)

    def assert_ratio(self, found, expected):
        self.assertIs(found.__class__, Ratio)
        self.assertEqual(found, expected)

    def test_all_live_things(self):
        self.assert_ratio(self.form({"d": 10, "l": 6}), Ratio(20))
        self.assert_ratio(self.form({"l": Ratio(1, 3), "d": Ratio(-1, 2)}), Ratio(11, 6))
        self.assert_ratio(self.form(place={"d": 0, "l": 0}), Ratio(3))
        self.assert_ratio(Form.of("d")({"d": 10 ** 30}), Ratio(10 ** 30))

    def test_others_beside_them(self):
        self.assert_ratio(self.form({"a": 99, "d": 10, "l": 6, "v": Ratio(1, 7)}), Ratio(20))

    def test_without_live_things(self):
        for place in ({}, {"d": 1}, {"v": Ratio(1, 2), "a": 0}):
            self.assert_ratio(Form(None, Ratio(5, 3))(place), Ratio(5, 3))
            self.assert_ratio(Form()(place), Ratio(0))

    def test_values_of_sums_are_sums_of_values(self):
        place = {"d": Ratio(3, 7), "l": -4, "v": Ratio(1, 10 ** 30)}
        for one, other in itertools.product(FORMS, FORMS):
            self.assert_ratio((one + other)(place), one(place) + other(place))
            self.assert_ratio((one - other)(place), one(place) - other(place))
            self.assert_ratio((one * Ratio(2, 3))(place), one(place) * Ratio(2, 3))

    def test_the_place_stays_and_may_be_changed_later(self):
        place = {"l": 6, "d": 10}
        self.assert_ratio(self.form(place), Ratio(20))
        self.assert_ratio(self.form(place), Ratio(20))
        self.assertEqual(list(place.items()), [("l", 6), ("d", 10)])
        place["d"] = 11
        self.assert_ratio(self.form(place), Ratio(22))

    def test_a_live_thing_less(self):
        for place in ({}, {"d": 1}, {"l": 1}, {"d": 1, "v": 1}):
            self.assertIs(told(lambda: self.form(place), InvalidPlace).value, place)
            self.assertIs(told(lambda: self.form(place=place), InvalidPlace).value, place)

    def test_refused_places(self):
        for value in NO_DICTS + WRONG_DICTS + [None]:
            self.assertIs(told(lambda: self.form(value), InvalidPlace).value, value)
            self.assertIs(told(lambda: Form()(value), InvalidPlace).value, value)

    def test_one_wrong_entry_among_right_ones(self):
        for wrong in WRONG_DICTS:
            place = {"d": 1, "l": 2, **wrong, "z": 1}
            self.assertIs(told(lambda: self.form(place), InvalidPlace).value, place)
        place = {"d": 1, "l": 2, "v": True}
        self.assertIs(told(lambda: Form()(place), InvalidPlace).value, place)
        self.assertEqual(self.form, Form({"d": 2, "l": Ratio(-1, 2)}, 3))


class ExampleTest(unittest.TestCase):
    def test_the_example_of_the_stage(self):
        gap = Form.of("d") - Form.of("l") + 3
        found = [gap.weights(), gap.live(), str(gap({"d": 100, "l": Ratio(1, 2)})), 2 * gap == gap + gap]
        self.assertEqual(repr(found), "[{'d': Ratio(1, 1), 'l': Ratio(-1, 1)}, ['d', 'l'], '205/2', True]")


if __name__ == "__main__":
    unittest.main()
