import unittest
from fractions import Fraction
from math import gcd

from calledmidway.errors import DividedByZero, InvalidNumber
from calledmidway.forms import Form
from calledmidway.ratios import Ratio, is_integer, is_name, is_number
from tests.values import NAMES, NO_NAMES, NO_NUMBERS, NUMBERS, Other, told

LONG = 123456789012345678901234567890
PARTS = [0, 1, -1, 2, -3, 6, 35, -48, LONG, -LONG, 6 * LONG]


def some_ratios():
    return [(Ratio(top, bottom), Fraction(top, bottom)) for top in PARTS for bottom in PARTS if bottom != 0]


class KindsTest(unittest.TestCase):
    def assert_all(self, function, values, expected):
        for at, value in enumerate(values):
            with self.subTest(function.__name__, at=at):
                self.assertIs(function(value), expected)
                self.assertIs(function(value=value), expected)

    def test_integers(self):
        self.assert_all(is_integer, [0, 1, -1, 255, -(10 ** 30), 10 ** 900], True)
        self.assert_all(is_integer, NO_NUMBERS + [Ratio(1), Ratio(0), Ratio(1, 2)], False)

    def test_numbers(self):
        self.assert_all(is_number, NUMBERS + [10 ** 900], True)
        self.assert_all(is_number, NO_NUMBERS, False)

    def test_names(self):
        self.assert_all(is_name, NAMES + list("abcdefghijklmnopqrstuvwxyz"), True)
        self.assert_all(is_name, NO_NAMES, False)

    def test_each_character_of_a_name_is_a_letter_from_a_to_z(self):
        for code in range(0x250):
            letter = 97 <= code <= 122
            for text in (chr(code), "ab" + chr(code), chr(code) + "ab", "a" + chr(code) + "b"):
                self.assertIs(is_name(text), letter, code)

    def test_names_have_one_to_eight_letters(self):
        for many in range(20):
            self.assertIs(is_name("q" * many), 1 <= many <= 8)


class PartsTest(unittest.TestCase):
    def test_lowest_terms_and_sign(self):
        for top in PARTS:
            for bottom in PARTS:
                if bottom == 0:
                    continue
                with self.subTest(top=top, bottom=bottom):
                    ratio, expected = Ratio(top, bottom), Fraction(top, bottom)
                    self.assertEqual((ratio.top, ratio.bottom), (expected.numerator, expected.denominator))
                    self.assertEqual(ratio.sign, (expected > 0) - (expected < 0))
                    self.assertGreaterEqual(ratio.bottom, 1)
                    self.assertEqual(gcd(ratio.top, ratio.bottom), 1)
                    for part in (ratio.top, ratio.bottom, ratio.sign):
                        self.assertIs(part.__class__, int)

    def test_ordinary_parts(self):
        found = [(ratio.top, ratio.bottom, ratio.sign) for ratio in
                 (Ratio(6, 4), Ratio(6, -4), Ratio(-6, -4), Ratio(-6, 4), Ratio(0, -5), Ratio(7))]
        self.assertEqual(found, [(3, 2, 1), (-3, 2, -1), (3, 2, 1), (-3, 2, -1), (0, 1, 0), (7, 1, 1)])

    def test_parameters_by_name(self):
        self.assertEqual(Ratio(top=6, bottom=4), Ratio(3, 2))
        self.assertEqual(Ratio(bottom=4, top=6), Ratio(3, 2))
        self.assertEqual(Ratio(6, bottom=4), Ratio(3, 2))
        self.assertEqual(Ratio(top=6), Ratio(6, 1))

    def test_parts_cannot_be_assigned(self):
        ratio = Ratio(1, 2)
        for name in ("top", "bottom", "sign"):
            with self.assertRaises(AttributeError):
                setattr(ratio, name, 5)
        self.assertEqual(repr(ratio), "Ratio(1, 2)")

    def test_refused_tops_and_bottoms(self):
        for value in NO_NUMBERS + [Ratio(1), Ratio(1, 2)]:
            self.assertIs(told(lambda: Ratio(value), InvalidNumber).value, value)
            self.assertIs(told(lambda: Ratio(value, 3), InvalidNumber).value, value)
            self.assertIs(told(lambda: Ratio(top=value), InvalidNumber).value, value)
            self.assertIs(told(lambda: Ratio(3, value), InvalidNumber).value, value)
            self.assertIs(told(lambda: Ratio(3, bottom=value), InvalidNumber).value, value)

    def test_a_bottom_of_zero_is_refused(self):
        for top in (0, 1, -7):
            error = told(lambda: Ratio(top, 0), InvalidNumber)
            self.assertEqual((error.value, error.value.__class__), (0, int))

    def test_of_two_wrong_parts_the_first_is_told(self):
        for first in NO_NUMBERS:
            for second in ("other", False, 0):
                self.assertIs(told(lambda: Ratio(first, second), InvalidNumber).value, first)
                self.assertIs(told(lambda: Ratio(bottom=second, top=first), InvalidNumber).value, first)


class ReckoningTest(unittest.TestCase):
    def assert_ratio(self, found, expected):
        self.assertIs(found.__class__, Ratio)
        self.assertEqual((found.top, found.bottom), (expected.numerator, expected.denominator))

    def test_two_ratios(self):
        for one, first in some_ratios():
            for other, second in some_ratios():
                self.assert_ratio(one + other, first + second)
                self.assert_ratio(one - other, first - second)
                self.assert_ratio(one * other, first * second)
                self.assertIs(one.is_below(other), first < second)
                self.assertIs(one == other, first == second)
                self.assertIs(one != other, first != second)
                if second != 0:
                    self.assert_ratio(one.over(other), first / second)

    def test_a_ratio_and_an_integer(self):
        for ratio, fraction in some_ratios():
            for number in PARTS:
                self.assert_ratio(ratio + number, fraction + number)
                self.assert_ratio(ratio - number, fraction - number)
                self.assert_ratio(ratio * number, fraction * number)
                self.assert_ratio(number + ratio, number + fraction)
                self.assert_ratio(number - ratio, number - fraction)
                self.assert_ratio(number * ratio, number * fraction)
                self.assertIs(ratio.is_below(number), fraction < number)
                if number != 0:
                    self.assert_ratio(ratio.over(number), fraction / number)

    def test_minus_in_front(self):
        for ratio, fraction in some_ratios():
            self.assert_ratio(-ratio, -fraction)
            self.assert_ratio(-(-ratio), fraction)

    def test_ordinary_results(self):
        half, third = Ratio(1, 2), Ratio(1, 3)
        found = [half + third, half - third, half * third, half.over(third), 1 - half, 3 * half, -half, half + 1]
        self.assertEqual([str(x) for x in found], ["5/6", "1/6", "1/6", "3/2", "1/2", "3/2", "-1/2", "3/2"])
        self.assertEqual([third.is_below(half), half.is_below(third), half.is_below(half)], [True, False, False])
        self.assertEqual([half.is_below(1), half.is_below(0), Ratio(2).is_below(2)], [True, False, False])

    def test_total(self):
        self.assert_ratio(Ratio.total(), Fraction(0))
        self.assert_ratio(Ratio.total(5), Fraction(5))
        self.assert_ratio(Ratio.total(Ratio(-1, 2)), Fraction(-1, 2))
        self.assert_ratio(Ratio.total(1, Ratio(1, 2), -3, Ratio(1, 3)), Fraction(-7, 6))
        self.assert_ratio(Ratio(9).total(1, 2), Fraction(3))
        pairs = some_ratios()
        self.assert_ratio(Ratio.total(*[one for one, _ in pairs]), sum([other for _, other in pairs], Fraction(0)))

    def test_parameters_by_name(self):
        self.assertEqual(Ratio(1, 2).over(other=3), Ratio(1, 6))
        self.assertIs(Ratio(1, 2).is_below(other=3), True)

    def test_what_was_reckoned_with_stays(self):
        one, other = Ratio(1, 2), Ratio(2, 3)
        kept = one
        one += other
        self.assertEqual((repr(one), repr(kept), repr(other)), ("Ratio(7, 6)", "Ratio(1, 2)", "Ratio(2, 3)"))
        one -= 1
        one *= other
        self.assertEqual((repr(one), repr(kept), repr(other)), ("Ratio(1, 9)", "Ratio(1, 2)", "Ratio(2, 3)"))
        for _ in range(2):
            self.assertEqual(kept.over(other), Ratio(3, 4))
            self.assertEqual(Ratio.total(kept, other), Ratio(7, 6))
            self.assertEqual(-kept, Ratio(-1, 2))
            self.assertEqual((repr(kept), repr(other)), ("Ratio(1, 2)", "Ratio(2, 3)"))

    def test_refused_on_the_right(self):
        ratio = Ratio(1, 2)
        for value in NO_NUMBERS:
            for action in (
                lambda: ratio + value, lambda: ratio - value, lambda: ratio * value,
                lambda: ratio.over(value), lambda: ratio.over(other=value),
                lambda: ratio.is_below(value), lambda: ratio.is_below(other=value),
                lambda: Ratio.total(value), lambda: Ratio.total(1, ratio, value, "later"),
            ):
                self.assertIs(told(action, InvalidNumber).value, value)
            self.assertEqual(repr(ratio), "Ratio(1, 2)")

    def test_a_form_on_the_right_of_a_ratio_is_refused(self):
        form = Form.of("d")
        for action in (lambda: Ratio(1) + form, lambda: Ratio(1) - form, lambda: Ratio(1) * form):
            self.assertIs(told(action, InvalidNumber).value, form)

    def test_only_integers_are_taken_on_the_left(self):
        for value in (True, False, None, "1", [1], (1,), Other()):
            for action in (lambda: value + Ratio(1), lambda: value - Ratio(1), lambda: value * Ratio(1)):
                self.assertRaises((TypeError, InvalidNumber), action)

    def test_divided_by_zero(self):
        for zero in (0, Ratio(0), Ratio(0, -3)):
            for ratio in (Ratio(0), Ratio(1, 2), Ratio(-LONG)):
                told(lambda: ratio.over(zero), DividedByZero)
                told(lambda: ratio.over(other=zero), DividedByZero)
        self.assertIs(told(lambda: Ratio(1).over(False), InvalidNumber).value, False)


class ShownTest(unittest.TestCase):
    def test_equal(self):
        self.assertTrue(Ratio(2, 4) == Ratio(-1, -2))
        self.assertFalse(Ratio(2, 4) != Ratio(-1, -2))
        self.assertTrue(Ratio(0, 4) == Ratio(0))
        self.assertFalse(Ratio(1, 2) == Ratio(1, 3))
        self.assertFalse(Ratio(1, 2) == Ratio(3, 2))
        self.assertFalse(Ratio(1, 2) == Ratio(-1, 2))

    def test_not_equal_to_values_of_another_kind(self):
        for value in NO_NUMBERS + [1, 0, "1", "Ratio(1, 1)", (1, 1), [1, 1], Fraction(1), Form(None, 1)]:
            for ratio in (Ratio(1), Ratio(0)):
                self.assertIs(ratio == value, False)
                self.assertIs(value == ratio, False)
                self.assertIs(ratio != value, True)

    def test_found_in_a_list(self):
        self.assertIn(Ratio(2, 4), [3, Ratio(1, 2)])
        self.assertEqual([Ratio(1, 3), Ratio(1, 2)].index(Ratio(2, 4)), 1)
        self.assertNotIn(Ratio(1), [1, True, "1", Ratio(1, 2)])
        self.assertNotIn(1, [Ratio(1)])

    def test_str(self):
        found = [str(x) for x in (Ratio(1, 2), Ratio(-6, 4), Ratio(4, 2), Ratio(0), Ratio(-3), Ratio(10 ** 30, 7))]
        self.assertEqual(found, ["1/2", "-3/2", "2", "0", "-3", "1000000000000000000000000000000/7"])

    def test_repr(self):
        found = [repr(x) for x in (Ratio(1, 2), Ratio(-6, 4), Ratio(4, 2), Ratio(0), Ratio(5, -LONG))]
        last = "Ratio(-1, 24691357802469135780246913578)"
        self.assertEqual(found, ["Ratio(1, 2)", "Ratio(-3, 2)", "Ratio(2, 1)", "Ratio(0, 1)", last])

    def test_the_methods_stand_in_the_class_and_the_functions_in_the_file(self):
        for name in ("over", "is_below", "total", "top", "bottom", "sign", "__add__", "__radd__", "__sub__",
                     "__rsub__", "__mul__", "__rmul__", "__neg__", "__eq__", "__str__", "__repr__"):
            self.assertIn(name, vars(Ratio))
        for member in (is_integer, is_number, is_name, Ratio):
            self.assertEqual(member.__module__, "calledmidway.ratios")


if __name__ == "__main__":
    unittest.main()
