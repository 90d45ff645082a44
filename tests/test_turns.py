"""The powers of a matrix, told by few numbers, on which points 12 and 13 rest."""

import unittest

from guardsums.matrices import applied, identity, power
from guardsums.turns import Turns, low_first, ones, top_factors
from tests.support import chance, random_matrix

MODULI = (2, 3, 4, 6, 12, 255, 10 ** 12 - 11, 10 ** 18)


def added_up(modulus, matrix, factors):
    """The sum of the powers of the matrix from 0 on, times these factors."""
    total = [[0] * len(matrix) for _ in matrix]
    for exponent, factor in enumerate(factors):
        for row, more in zip(total, power(modulus, matrix, exponent)):
            for at, number in enumerate(more):
                row[at] = (row[at] + factor * number) % modulus
    return tuple(map(tuple, total))


class TurnsTest(unittest.TestCase):
    def cases(self):
        source = chance(1)
        for modulus in MODULI:
            for size in (1, 2, 3, 5, 16):
                yield modulus, random_matrix(source, modulus, size, size), source
            yield modulus, identity(4), source
            yield modulus, ((0, 1, 0), (0, 0, 1), (0, 0, 0)), source
            yield modulus, ((0,) * 6,) * 6, source

    def test_top(self):
        for modulus, matrix, _ in self.cases():
            told = top_factors(modulus, matrix)
            self.assertEqual(added_up(modulus, matrix, told), power(modulus, matrix, len(matrix)))

    def test_top_by_hand(self):
        # x ** 2 - 5 x - 2, and x - 7.
        self.assertEqual([top_factors(100, ((1, 2), (3, 4))), top_factors(100, ((7,),))], [(2, 5), (7,)])

    def test_powers(self):
        for modulus, matrix, source in self.cases():
            turns = Turns(modulus, matrix)
            row = random_matrix(source, modulus, 1, len(matrix))[0]
            exponents = [0, 1, 2, 3, len(matrix), 29, 10 ** 30, 10 ** 40 - 1]
            for exponent, factors in zip(exponents, turns.all_raised(exponents)):
                self.assertEqual(turns.raised(exponent), factors)
                wanted = power(modulus, matrix, exponent)
                self.assertEqual(added_up(modulus, matrix, factors), wanted)
                self.assertEqual(turns.act(factors, row), applied(modulus, wanted, row))
            self.assertEqual(turns.all_raised([]), [])
            self.assertEqual(turns.all_raised([0, 0]), [turns.none, turns.none])

    def test_products(self):
        for modulus, matrix, _ in self.cases():
            turns = Turns(modulus, matrix)
            one, other = turns.raised(10), turns.raised(10 ** 9)
            self.assertEqual(turns.multiplied(turns.table(one), other), turns.raised(10 ** 9 + 10))
            self.assertEqual(turns.multiplied(turns.table(other), one), turns.raised(10 ** 9 + 10))
            self.assertEqual(turns.further(one), turns.raised(11))

    def test_bits(self):
        self.assertEqual([low_first(0), low_first(6), ones(0), ones(1), ones(6), ones(2 ** 300 + 1)],
                         ["0", "011", [], [0], [1, 2], [0, 300]])


if __name__ == "__main__":
    unittest.main()
