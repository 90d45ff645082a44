"""Point 6: numbers modulo M."""

import unittest
from math import gcd

from guardsums import residues
from guardsums.errors import BadModulus
from guardsums.ratios import Ratio
from guardsums.residues import inverse, primes

FORTY = 10 ** 39 + 7


class Inverse(unittest.TestCase):
    def check(self, number, modulus):
        told = inverse(number, modulus)
        if gcd(number, modulus) != 1:
            self.assertIsNone(told, (number, modulus))
        else:
            self.assertIs(type(told), int)
            self.assertTrue(1 <= told < modulus, (number, modulus))
            self.assertEqual(number * told % modulus, 1, (number, modulus))

    def test_document(self):
        self.assertEqual([inverse(7, 10), inverse(-1, 4), inverse(4, 10)], [3, 3, None])

    def test_small(self):
        for modulus in range(2, 60):
            for number in range(-2 * modulus - 1, 2 * modulus + 2):
                self.check(number, modulus)

    def test_modulus_two(self):
        told = [inverse(number, 2) for number in (-3, -2, -1, 0, 1, 2, 3, FORTY, FORTY + 1)]
        self.assertEqual(told, [1, None, 1, None, 1, None, 1, 1, None])

    def test_zero(self):
        for modulus in (2, 3, 4, 10, 10 ** 18, FORTY):
            self.assertIsNone(inverse(0, modulus))
            self.assertIsNone(inverse(modulus, modulus))
            self.assertIsNone(inverse(-3 * modulus, modulus))

    def test_powers_of_two(self):
        for height in (1, 2, 8, 32, 64, 128):
            for number in (-FORTY, -5, -1, 1, 2, 3, 4, 5, 2 ** 63, FORTY, FORTY + 1):
                self.check(number, 2 ** height)

    def test_products_of_primes(self):
        product = 2 * 3 * 5 * 7 * 11 * 13
        for number in (1, -1, 2, 13, 17, 17 * 19, 30030 - 1, 30030 + 1, -77, 10 ** 20 + 1, FORTY):
            self.check(number, product)
            self.check(number, 999983 * 1000003)
            self.check(999983 * number, 999983 * 1000003)

    def test_forty_digits(self):
        for modulus in (10 ** 39 + 1, 10 ** 40 - 1, 10 ** 40 - 17, 3 ** 83):
            for number in (FORTY, -FORTY, 10 ** 40 - 2, 10 ** 39, 6, modulus - 1, modulus + 1, modulus // 3):
                self.check(number, modulus)

    def test_less_one_undoes_itself(self):
        for modulus in (2, 3, 4, 10, 10 ** 18, 10 ** 40 - 1):
            self.assertEqual(inverse(-1, modulus), modulus - 1)
            self.assertEqual(inverse(1, modulus), 1)

    def test_equal_calls(self):
        self.assertEqual(inverse(FORTY, 10 ** 18), inverse(FORTY, 10 ** 18))


class Primes(unittest.TestCase):
    def test_interface(self):
        for function in (inverse, primes):
            self.assertEqual(function.__module__, "guardsums.residues")
            self.assertIs(getattr(residues, function.__name__), function)

    def test_document(self):
        self.assertEqual([primes(360), primes(10 ** 12 - 11)], [(2, 3, 5), (999999999989,)])

    def test_small(self):
        known = [number for number in range(2, 3000) if all(number % less for less in range(2, number))]
        for number in range(2, 3000):
            told = primes(number)
            self.assertIs(type(told), tuple)
            self.assertEqual(told, tuple(prime for prime in known if number % prime == 0), number)

    def test_edges(self):
        for number, wanted in [
            (2, (2,)), (3, (3,)), (4, (2,)), (9, (3,)), (25, (5,)), (2 ** 39, (2,)), (3 ** 25, (3,)), (7 ** 14, (7,)),
            (999983, (999983,)), (999983 ** 2, (999983,)), (999979 * 999983, (999979, 999983)),
            (999961 * 999983, (999961, 999983)), (2 * 499979 * 999983, (2, 499979, 999983)),
            (2 * 499999999979, (2, 499999999979)), (3 * 333333333323, (3, 333333333323)),
            (10 ** 12, (2, 5)), (10 ** 12 - 1, (3, 7, 11, 13, 37, 101, 9901)),
            (200560490130, (2, 3, 5, 7, 11, 13, 17, 19, 23, 29, 31)),
        ]:
            self.assertEqual(primes(number), wanted, number)

    def test_great_ones(self):
        for number in range(10 ** 12 - 40, 10 ** 12 + 1):
            told = primes(number)
            self.assertEqual(list(told), sorted(set(told)))
            rest = number
            for prime in told:
                self.assertEqual(rest % prime, 0)
                while rest % prime == 0:
                    rest //= prime
            self.assertEqual(rest, 1)

    def test_other_values(self):
        deep = {"A": [(1, [None])]}
        for value in [1, 0, -1, -2, -360, -(10 ** 12), 10 ** 12 + 1, 10 ** 30, 10 ** 40 - 1, True, False, None, "",
                      "7", (), (7,), [], [7], [[7]], {}, {7: 7}, deep, Ratio(7), Ratio(7, 2), b"7", 7.0]:
            with self.assertRaises(BadModulus) as caught:
                primes(value)
            self.assertIs(caught.exception.number, value)
        self.assertEqual(deep, {"A": [(1, [None])]})

    def test_equal_calls(self):
        self.assertEqual(primes(360), primes(360))


if __name__ == "__main__":
    unittest.main()
