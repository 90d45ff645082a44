"""Point 7: matrices modulo M."""

import itertools
import unittest
from math import gcd

from guardsums import matrices
from guardsums.matrices import applied, identity, power, product, undone
from tests.support import chance, random_matrix, times

TURN = ((0, 0, 1), (1, 0, 1), (0, 1, 0))
FORTY = 10 ** 40 - 17
MODULI = (2, 3, 4, 6, 7, 8, 12, 255, 10 ** 12 - 11, 10 ** 18, FORTY)


class Interface(unittest.TestCase):
    def test_names(self):
        for function in (product, applied, identity, power, undone):
            self.assertEqual(function.__module__, "guardsums.matrices")
            self.assertIs(getattr(matrices, function.__name__), function)


class Products(unittest.TestCase):
    def test_document(self):
        self.assertEqual(product(4, ((2, 1),), ((1, 3), (2, 2))), ((0, 0),))
        self.assertEqual(applied(2, TURN, (0, 0, 1)), (1, 1, 0))

    def test_by_hand(self):
        self.assertEqual(product(10, ((1, 2), (3, 4)), ((5, 6), (7, 8))), ((9, 2), (3, 0)))
        self.assertEqual(product(10, ((1,), (2,)), ((3, 4, 5),)), ((3, 4, 5), (6, 8, 0)))
        self.assertEqual(product(10, ((3, 4, 5),), ((1,), (2,), (3,))), ((6,),))
        self.assertEqual(applied(10, ((1, 2, 3), (4, 5, 6)), (1, 1, 2)), (9, 1))

    def test_against_sums(self):
        source = chance(1)
        for modulus in MODULI:
            for high, size, wide in ((1, 1, 1), (1, 4, 2), (3, 1, 5), (4, 4, 4), (16, 16, 16), (2, 7, 3)):
                one, other = random_matrix(source, modulus, high, size), random_matrix(source, modulus, size, wide)
                told = product(modulus, one, other)
                self.assertEqual(told, times(modulus, one, other))
                self.assertEqual(tuple(zip(*told)), tuple(applied(modulus, one, row) for row in zip(*other)))

    def test_numbers_of_all_sizes(self):
        source = chance(2)
        for modulus in MODULI:
            plain = random_matrix(source, modulus, 3, 3)
            other = tuple(tuple(number + modulus * source.randrange(-FORTY, FORTY) for number in row) for row in plain)
            row = (5, -FORTY, modulus * FORTY + 1)
            less = tuple(number % modulus for number in row)
            self.assertEqual(product(modulus, other, plain), product(modulus, plain, plain))
            self.assertEqual(product(modulus, plain, other), product(modulus, plain, plain))
            self.assertEqual(applied(modulus, other, row), applied(modulus, plain, less))
            self.assertEqual(power(modulus, other, 1), plain)
            self.assertEqual(power(modulus, other, 5), power(modulus, plain, 5))
            self.assertEqual(undone(modulus, other), undone(modulus, plain))
            self.assertTrue(all(0 <= number < modulus for line in power(modulus, other, 1) for number in line))

    def test_identity(self):
        self.assertEqual(identity(1), ((1,),))
        self.assertEqual(identity(3), ((1, 0, 0), (0, 1, 0), (0, 0, 1)))
        for modulus in MODULI:
            for size in (1, 2, 5, 16):
                matrix = random_matrix(chance(size), modulus, size, size)
                self.assertEqual(product(modulus, identity(size), matrix), matrix)
                self.assertEqual(product(modulus, matrix, identity(size)), matrix)


class Powers(unittest.TestCase):
    def test_document(self):
        self.assertEqual(power(2, TURN, 7), ((1, 0, 0), (0, 1, 0), (0, 0, 1)))

    def test_against_products(self):
        source = chance(3)
        for modulus in MODULI:
            for size in (1, 2, 3, 5):
                matrix = random_matrix(source, modulus, size, size)
                wanted = identity(size)
                for many in range(20):
                    self.assertEqual(power(modulus, matrix, many), wanted)
                    wanted = times(modulus, wanted, matrix)

    def test_zero_and_one(self):
        for matrix in (((0,),), ((5,),), ((0, 0), (0, 0)), ((2, 3), (4, 5))):
            self.assertEqual(power(2, matrix, 0), identity(len(matrix)))
            self.assertEqual(power(4, matrix, 1), tuple(tuple(number % 4 for number in row) for row in matrix))

    def test_great_exponents(self):
        for modulus in MODULI:
            for many in (10 ** 30, 10 ** 40 - 1, 2 ** 128, 7 ** 200):
                self.assertEqual(power(modulus, ((3,),), many), ((pow(3, many, modulus),),))
                self.assertEqual(power(modulus, ((1, 0), (1, 1)), many), ((1, 0), (many % modulus, 1)))
        self.assertEqual(power(2, TURN, 7 * 10 ** 39), identity(3))
        self.assertEqual(power(2, TURN, 7 * 10 ** 39 + 2), product(2, TURN, TURN))


class Undone(unittest.TestCase):
    def check(self, modulus, matrix):
        told = undone(modulus, matrix)
        if told is not None:
            self.assertEqual(times(modulus, told, matrix), identity(len(matrix)))
            self.assertEqual(times(modulus, matrix, told), identity(len(matrix)))
            self.assertTrue(all(0 <= number < modulus for row in told for number in row))
        return told

    def test_document(self):
        self.assertEqual(undone(2, TURN), ((1, 1, 0), (0, 0, 1), (1, 0, 0)))
        self.assertEqual([undone(6, ((2, 3), (3, 2))), undone(6, ((2, 0), (0, 3)))], [((2, 3), (3, 2)), None])

    def test_one_number(self):
        for modulus in range(2, 40):
            for number in range(-modulus, 2 * modulus):
                told = self.check(modulus, ((number,),))
                self.assertEqual(told is not None, gcd(number, modulus) == 1)

    def test_all_of_two_rows(self):
        for modulus in (2, 3, 4, 5, 6, 8):
            for one, two, three, four in itertools.product(range(modulus), repeat=4):
                told = self.check(modulus, ((one, two), (three, four)))
                self.assertEqual(told is not None, gcd(one * four - two * three, modulus) == 1)

    def test_all_of_three_bits(self):
        many = 0
        for rows in itertools.product(itertools.product(range(2), repeat=3), repeat=3):
            many += self.check(2, rows) is not None
        self.assertEqual(many, 7 * 6 * 4)

    def test_great_ones(self):
        source = chance(4)
        for modulus in MODULI:
            found = 0
            for size in (3, 6, 10, 16):
                for _ in range(6):
                    # Products of such as can be undone surely can be undone themselves.
                    upper = tuple(tuple(int(row == at) or (row < at) * source.randrange(modulus) for at in range(size))
                                  for row in range(size))
                    lower = tuple(zip(*upper))
                    self.assertIsNotNone(self.check(modulus, product(modulus, lower, upper)))
                    found += self.check(modulus, random_matrix(source, modulus, size, size)) is not None
            self.assertGreater(found + (modulus <= 12), 0)

    def test_none_modulo_a_divisor(self):
        for modulus, prime in ((6, 2), (6, 3), (10 ** 18, 5), (255, 17), (8, 2)):
            matrix = ((prime, 0, 1), (0, 1, 0), (prime, 0, 1 + prime))
            self.assertIsNone(undone(modulus, matrix))

    def test_matrices_are_as_before(self):
        matrix = ((2, 3), (3, -2))
        told = [undone(6, matrix), power(6, matrix, 3), product(6, matrix, matrix), applied(6, matrix, (7, 8))]
        again = [undone(6, matrix), power(6, matrix, 3), product(6, matrix, matrix), applied(6, matrix, (7, 8))]
        self.assertEqual((matrix, told), (((2, 3), (3, -2)), again))


if __name__ == "__main__":
    unittest.main()
