"""Point 6: numbers modulo M."""

import time
import unittest
from math import gcd, isqrt

from guardsums import residues
from guardsums.errors import BadModulus
from guardsums.ratios import Ratio
from guardsums.residues import (TRIED, exponent_of, inverse, is_prime, prime_parts, prime_powers, primes,
                                raised_number)

FORTY = 10 ** 39 + 7


def by_trial(number):
    """The primes of a number, by trying all divisors up to its root."""
    found, rest, divisor = [], number, 2
    while divisor <= isqrt(rest):
        if rest % divisor == 0:
            found.append(divisor)
            while rest % divisor == 0:
                rest //= divisor
        divisor += 1
    return tuple(found + [rest] * (rest > 1))


class Inverse(unittest.TestCase):
    def check(self, number, modulus):
        told = inverse(number, modulus)
        if gcd(number, modulus) != 1:
            self.assertIsNone(told, (number, modulus))
        else:
            self.assertIs(type(told), int)
            self.assertTrue(1 <= told < modulus, (number, modulus))
            self.assertEqual(number * told % modulus, 1, (number, modulus))

    def test_document(self):
        self.assertEqual([inverse(7, 10), inverse(-1, 4), inverse(4, 10)], [3, 3, None])

    def test_small(self):
        for modulus in range(2, 60):
            for number in range(-2 * modulus - 1, 2 * modulus + 2):
                self.check(number, modulus)

    def test_modulus_two(self):
        told = [inverse(number, 2) for number in (-3, -2, -1, 0, 1, 2, 3, FORTY, FORTY + 1)]
        self.assertEqual(told, [1, None, 1, None, 1, None, 1, 1, None])

    def test_zero(self):
        for modulus in (2, 3, 4, 10, 10 ** 18, FORTY):
            self.assertIsNone(inverse(0, modulus))
            self.assertIsNone(inverse(modulus, modulus))
            self.assertIsNone(inverse(-3 * modulus, modulus))

    def test_powers_of_two(self):
        for height in (1, 2, 8, 32, 64, 128):
            for number in (-FORTY, -5, -1, 1, 2, 3, 4, 5, 2 ** 63, FORTY, FORTY + 1):
                self.check(number, 2 ** height)

    def test_products_of_primes(self):
        product = 2 * 3 * 5 * 7 * 11 * 13
        for number in (1, -1, 2, 13, 17, 17 * 19, 30030 - 1, 30030 + 1, -77, 10 ** 20 + 1, FORTY):
            self.check(number, product)
            self.check(number, 999983 * 1000003)
            self.check(999983 * number, 999983 * 1000003)

    def test_forty_digits(self):
        for modulus in (10 ** 39 + 1, 10 ** 40 - 1, 10 ** 40 - 17, 3 ** 83):
            for number in (FORTY, -FORTY, 10 ** 40 - 2, 10 ** 39, 6, modulus - 1, modulus + 1, modulus // 3):
                self.check(number, modulus)

    def test_less_one_undoes_itself(self):
        for modulus in (2, 3, 4, 10, 10 ** 18, 10 ** 40 - 1):
            self.assertEqual(inverse(-1, modulus), modulus - 1)
            self.assertEqual(inverse(1, modulus), 1)

    def test_equal_calls(self):
        self.assertEqual(inverse(FORTY, 10 ** 18), inverse(FORTY, 10 ** 18))


class Primes(unittest.TestCase):
    def test_interface(self):
        for function in (inverse, primes):
            self.assertEqual(function.__module__, "guardsums.residues")
            self.assertIs(getattr(residues, function.__name__), function)

    def test_document(self):
        self.assertEqual([primes(360), primes(10 ** 12 - 11)], [(2, 3, 5), (999999999989,)])

    def test_small(self):
        known = [number for number in range(2, 3000) if all(number % less for less in range(2, number))]
        for number in range(2, 3000):
            told = primes(number)
            self.assertIs(type(told), tuple)
            self.assertEqual(told, tuple(prime for prime in known if number % prime == 0), number)

    def test_edges(self):
        for number, wanted in [
            (2, (2,)), (3, (3,)), (4, (2,)), (9, (3,)), (25, (5,)), (2 ** 39, (2,)), (3 ** 25, (3,)), (7 ** 14, (7,)),
            (999983, (999983,)), (999983 ** 2, (999983,)), (999979 * 999983, (999979, 999983)),
            (999961 * 999983, (999961, 999983)), (2 * 499979 * 999983, (2, 499979, 999983)),
            (2 * 499999999979, (2, 499999999979)), (3 * 333333333323, (3, 333333333323)),
            (10 ** 12, (2, 5)), (10 ** 12 - 1, (3, 7, 11, 13, 37, 101, 9901)),
            (200560490130, (2, 3, 5, 7, 11, 13, 17, 19, 23, 29, 31)),
        ]:
            self.assertEqual(primes(number), wanted, number)

    def test_great_ones(self):
        for number in range(10 ** 12 - 40, 10 ** 12 + 1):
            told = primes(number)
            self.assertEqual(list(told), sorted(set(told)))
            rest = number
            for prime in told:
                self.assertEqual(rest % prime, 0)
                while rest % prime == 0:
                    rest //= prime
            self.assertEqual(rest, 1)

    def test_greatest_prime_above_a_million(self):
        for number, wanted in [
            (1000003, (1000003,)), (2 * 1000003, (2, 1000003)), (997 * 1000003, (997, 1000003)),
            (999961 * 1000003, (999961, 1000003)), (2 ** 18 * 1000003, (2, 1000003)), (7 ** 2 * 1000003, (7, 1000003)),
            (20011 * 49972511, None), (19997 * 50007499, None), (3 * 5 * 66666666613, None),
        ]:
            self.assertEqual(primes(number), wanted or by_trial(number), number)

    def test_around_the_last_tried_divisor(self):
        near = [number for number in range(TRIED - 150, TRIED + 150) if by_trial(number) == (number,)]
        self.assertTrue(near[0] < TRIED < near[-1])
        for one in near:
            for other in near:
                self.assertEqual(primes(one * other), tuple(sorted({one, other})))
                self.assertEqual(primes(one * other * 2), tuple(sorted({2, one, other})))

    def test_two_great_primes(self):
        # Ratios of all kinds between two primes above the last tried divisor, the greatest ones too.
        for least in (20011, 20021, 25013, 33331, 54323, 99991, 123457, 314159, 500009, 707111, 900001, 999983):
            for most in (10 ** 12 // least, 3 * 10 ** 11 // least, 2 * least, least + 1000, 7 * least // 5):
                greatest = max(number for number in range(most - 400, most) if by_trial(number) == (number,))
                if least * greatest <= 10 ** 12:
                    self.assertEqual(primes(least * greatest), tuple(sorted({least, greatest})))

    def test_squares_of_primes(self):
        for prime in (2, 3, 5, 7, 97, 9973, 19997, 20011, 54323, 314159, 707111, 999979, 999983):
            self.assertEqual(primes(prime ** 2), (prime,))
            self.assertEqual(primes(prime ** 2 - 1), by_trial(prime ** 2 - 1))

    def test_composites_that_pass_for_primes(self):
        # Products of p and 2 p - 1 are those that pass a single test for primes most often.
        many = 0
        for prime in range(20011, 60000, 2):
            if by_trial(prime) == (prime,) and by_trial(2 * prime - 1) == (2 * prime - 1,):
                self.assertEqual(primes(prime * (2 * prime - 1)), (prime, 2 * prime - 1))
                many += 1
        self.assertGreater(many, 100)

    def test_stretches(self):
        for first in (TRIED ** 2 - 60, 10 ** 10 - 60, 5 * 10 ** 11, 10 ** 12 - 60):
            for number in range(first, first + 61):
                told = primes(number)
                self.assertEqual(list(told), sorted(set(told)))
                rest = number
                for prime in told:
                    self.assertEqual((rest % prime, by_trial(prime)), (0, (prime,)))
                    while rest % prime == 0:
                        rest //= prime
                self.assertEqual(rest, 1)

    def test_slowest_in_good_time(self):
        ahead = time.process_time()
        for number in (999968573027, 999992335747, 999997690547, 999983238509, 999967917583) * 20:
            self.assertEqual(len(primes(number)), 2)
        # Half a million divisions a call would take more than two seconds here.
        self.assertLess(time.process_time() - ahead, 1.5)

    def test_other_values(self):
        deep = {"A": [(1, [None])]}
        for value in [1, 0, -1, -2, -360, -(10 ** 12), 10 ** 12 + 1, 10 ** 30, 10 ** 40 - 1, True, False, None, "",
                      "7", (), (7,), [], [7], [[7]], {}, {7: 7}, deep, Ratio(7), Ratio(7, 2), b"7", 7.0]:
            with self.assertRaises(BadModulus) as caught:
                primes(value)
            self.assertIs(caught.exception.number, value)
        self.assertEqual(deep, {"A": [(1, [None])]})

    def test_equal_calls(self):
        self.assertEqual(primes(360), primes(360))


class Parts(unittest.TestCase):
    def test_prime_parts_up_to_the_greatest(self):
        self.assertEqual([prime_parts(1), prime_parts(2 ** 40), prime_parts(2 ** 40 - 1)],
                         [(), (2,), (3, 5, 11, 17, 31, 41, 61681)])
        for number, wanted in ((2 ** 40 - 87, (2 ** 40 - 87,)), (1048573 ** 2, (1048573,)),
                               (1048573 * 1048571, (1048571, 1048573)), (20011 * 54940027, None)):
            self.assertEqual(prime_parts(number), wanted or by_trial(number))
        for number in range(2 ** 40 - 60, 2 ** 40):
            told, rest = prime_parts(number), number
            for prime in told:
                self.assertIs(is_prime(prime), True)
                while rest % prime == 0:
                    rest //= prime
            self.assertEqual((rest, list(told)), (1, sorted(set(told))))

    def test_products_of_great_primes(self):
        known = [number for number in range(20000, 21000) if by_trial(number) == (number,)]
        for least in known[::9]:
            greatest = 2 ** 40 // least
            while by_trial(greatest) != (greatest,):
                greatest -= 1
            self.assertEqual(prime_parts(least * greatest), (least, greatest))

    def test_is_prime(self):
        for number in range(-5, 500):
            self.assertIs(is_prime(number), number > 1 and by_trial(number) == (number,))
        for value in (True, None, "7", (7,), [7], Ratio(7), 2 ** 40, 2 ** 40 + 15, 2 ** 61 - 1, 10 ** 40 - 1):
            self.assertIs(is_prime(value), False)

    def test_powers(self):
        self.assertEqual([prime_powers(360), prime_powers(2), prime_powers(10 ** 12)],
                         [((2, 3), (3, 2), (5, 1)), ((2, 1),), ((2, 12), (5, 12))])
        with self.assertRaises(BadModulus):
            prime_powers(10 ** 12 + 1)
        for number, prime, wanted in ((360, 2, 3), (360, 7, 0), (1, 2, 0), (3 ** 50, 3, 50)):
            self.assertEqual(exponent_of(number, prime), wanted)
        for number, exponent in ((3, 0), (3, 1), (10, 18), (7, 100), (1, 5), (0, 0), (0, 3)):
            self.assertEqual(raised_number(number, exponent), number ** exponent)


if __name__ == "__main__":
    unittest.main()
