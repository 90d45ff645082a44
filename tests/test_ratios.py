"""Point 5: exact fractions."""

import unittest
from fractions import Fraction
from math import gcd
from unittest import mock

from guardsums import ratios
from guardsums.errors import BadOver
from guardsums.ratios import Ratio

GREAT = 10 ** 39 + 7
OTHER_GREAT = -(10 ** 40 - 3)
NUMBERS = [0, 1, -1, 2, -2, 3, 4, -6, 12, 35, GREAT, OTHER_GREAT, 6 * GREAT]
OVERS = [number for number in NUMBERS if number != 0]
SMALL = [(number, over) for number in range(-4, 5) for over in (-3, -2, -1, 1, 2, 3, 4, 6)]
GREAT_ONES = [(GREAT, OTHER_GREAT), (OTHER_GREAT, 6), (-5, GREAT), (10 ** 39, 10 ** 40 - 10), (0, OTHER_GREAT)]
PAIRS = SMALL + GREAT_ONES


class RatioTest(unittest.TestCase):
    def check(self, ratio, wanted):
        """Whether ratio is a Ratio in lowest terms, the same number as a Fraction."""
        self.assertIsInstance(ratio, Ratio)
        self.assertEqual((ratio.number, ratio.over), (wanted.numerator, wanted.denominator))
        self.assertIs(type(ratio.number), int)
        self.assertIs(type(ratio.over), int)


class Making(RatioTest):
    def test_interface(self):
        self.assertEqual(Ratio.__module__, "guardsums.ratios")
        self.assertIs(ratios.Ratio, Ratio)
        for name in ("is_less", "divided", "__add__", "__radd__", "__sub__", "__rsub__", "__mul__", "__rmul__",
                     "__neg__", "__abs__", "__eq__", "__str__"):
            self.assertIn(name, vars(Ratio))

    def test_document(self):
        half = Ratio(3, -6) + 1
        told = [str(half), str(2 - half * 3), str(half.divided(Ratio(1, 3))), half == Ratio(1, 2), half.is_less(1),
                abs(-half).over]
        self.assertEqual(told, ["1/2", "1/2", "3/2", True, True, 2])

    def test_lowest_terms(self):
        for number in NUMBERS:
            for over in OVERS:
                ratio = Ratio(number, over)
                self.check(ratio, Fraction(number, over))
                self.assertGreater(ratio.over, 0)
                self.assertEqual(gcd(ratio.number, ratio.over), 1)
                self.assertEqual(ratio.number * over, number * ratio.over)

    def test_by_hand(self):
        for number, over, wanted in [(6, 4, (3, 2)), (-6, 4, (-3, 2)), (6, -4, (-3, 2)), (-6, -4, (3, 2)),
                                     (0, 5, (0, 1)), (0, -5, (0, 1)), (7, 1, (7, 1)), (7, -1, (-7, 1)),
                                     (7, 7, (1, 1)), (8, -4, (-2, 1))]:
            ratio = Ratio(number, over)
            self.assertEqual((ratio.number, ratio.over), wanted)

    def test_over_is_one_unless_told(self):
        self.check(Ratio(-5), Fraction(-5))
        self.check(Ratio(number=6, over=-8), Fraction(-3, 4))

    def test_over_zero(self):
        for number in NUMBERS:
            with self.assertRaises(BadOver):
                Ratio(number, 0)


class Reckoning(RatioTest):
    def test_two_ratios(self):
        for one in PAIRS:
            for other in PAIRS:
                left, right = Fraction(*one), Fraction(*other)
                self.check(Ratio(*one) + Ratio(*other), left + right)
                self.check(Ratio(*one) - Ratio(*other), left - right)
                self.check(Ratio(*one) * Ratio(*other), left * right)

    def test_integer_on_either_side(self):
        for one in PAIRS:
            for number in NUMBERS:
                fraction = Fraction(*one)
                self.check(Ratio(*one) + number, fraction + number)
                self.check(number + Ratio(*one), number + fraction)
                self.check(Ratio(*one) - number, fraction - number)
                self.check(number - Ratio(*one), number - fraction)
                self.check(Ratio(*one) * number, fraction * number)
                self.check(number * Ratio(*one), number * fraction)

    def test_one_operand(self):
        for one in PAIRS:
            self.check(-Ratio(*one), -Fraction(*one))
            self.check(abs(Ratio(*one)), abs(Fraction(*one)))

    def test_divided(self):
        for one in PAIRS:
            for other in PAIRS:
                if other[0] != 0:
                    self.check(Ratio(*one).divided(Ratio(*other)), Fraction(*one) / Fraction(*other))
            for number in OVERS:
                self.check(Ratio(*one).divided(number), Fraction(*one) / number)

    def test_divided_by_zero(self):
        for one in PAIRS:
            for zero in (0, Ratio(0), Ratio(0, -3)):
                with self.assertRaises(BadOver):
                    Ratio(*one).divided(zero)

    def test_operands_are_as_before(self):
        one, other = Ratio(-3, 4), Ratio(5, 6)
        for _ in range(2):
            told = [one + other, one - other, one * other, one + 2, 2 - one, 3 * one, -one, abs(one), one == other,
                    one.is_less(other), one.divided(other), one.divided(-2), str(one)]
            self.assertEqual(len(told), 13)
            self.assertEqual((one.number, one.over, other.number, other.over), (-3, 4, 5, 6))
        with self.assertRaises(BadOver):
            one.divided(0)
        self.assertEqual((one.number, one.over), (-3, 4))

    def test_added_in_place_is_another_one(self):
        one = same = Ratio(1, 2)
        one += Ratio(1, 2)
        self.check(one, Fraction(1))
        self.check(same, Fraction(1, 2))


class Comparing(RatioTest):
    def test_equal(self):
        for one in PAIRS:
            for other in PAIRS:
                same = Fraction(*one) == Fraction(*other)
                self.assertIs(Ratio(*one) == Ratio(*other), same)
                self.assertIs(Ratio(*one) != Ratio(*other), not same)

    def test_of_ratios_alone(self):
        for value in (2, 0, True, None, "2", "2/1", (2, 1), [2, 1], {"number": 2}, Fraction(2), 2.0, object(), mock.ANY):
            for ratio in (Ratio(2), Ratio(0), Ratio(1)):
                self.assertFalse(ratio == value)
                self.assertTrue(ratio != value)
        for number in (0, 1, 2, GREAT):
            self.assertFalse(number == Ratio(number))
            self.assertFalse(Ratio(number) == number)

    def test_is_less_than_ratio(self):
        for one in PAIRS:
            for other in PAIRS:
                self.assertIs(Ratio(*one).is_less(Ratio(*other)), Fraction(*one) < Fraction(*other))

    def test_is_less_than_integer(self):
        for one in PAIRS:
            for number in NUMBERS:
                self.assertIs(Ratio(*one).is_less(number), Fraction(*one) < number)

    def test_is_less_by_hand(self):
        self.assertTrue(Ratio(-1, 2).is_less(Ratio(-1, 3)))
        self.assertFalse(Ratio(-1, 3).is_less(Ratio(-1, 2)))
        self.assertFalse(Ratio(2, 4).is_less(Ratio(1, 2)))
        self.assertFalse(Ratio(-2).is_less(-2))
        self.assertTrue(Ratio(-5, 2).is_less(-2))
        self.assertFalse(Ratio(-3, 2).is_less(-2))


class Writing(RatioTest):
    def test_by_hand(self):
        for number, over, wanted in [(3, 2, "3/2"), (-3, 2, "-3/2"), (3, -2, "-3/2"), (4, 2, "2"), (-4, 2, "-2"),
                                     (0, 9, "0"), (1, GREAT, f"1/{GREAT}"), (OTHER_GREAT, 1, f"{OTHER_GREAT}")]:
            self.assertEqual(str(Ratio(number, over)), wanted)

    def test_four_thousand_figures(self):
        nines, power = "9" * 4000, "1" + "0" * 3999
        self.assertEqual(str(Ratio(-int(nines), int(power))), f"-{nines}/{power}")


if __name__ == "__main__":
    unittest.main()
