"""The degrees of the factors of characteristic polynomials, as orders need them."""

import itertools
import unittest

from guardsums.degrees import divided, factor_degrees, greatest_common, trimmed
from guardsums.turns import Turns
from tests.support import chance, companion, random_matrix


def multiplied(prime, one, other):
    found = [0] * (len(one) + len(other) - 1)
    for at, number in enumerate(one):
        for place, more in enumerate(other):
            found[at + place] = (found[at + place] + number * more) % prime
    return found


def irreducible(prime, most):
    """All irreducible polynomials up to a degree, 1 on top, by the products that they are not."""
    made, found = set(), []
    for degree in range(1, most + 1):
        for numbers in itertools.product(range(prime), repeat=degree):
            if numbers + (1,) not in made:
                found.append(list(numbers) + [1])
        for one in found:
            for other in [part for part in found] + [list(part) for part in made if len(part) > 1]:
                if len(one) + len(other) - 2 <= most:
                    made.add(tuple(multiplied(prime, one, other)))
    return found


class Degrees(unittest.TestCase):
    def test_products_of_irreducible_polynomials(self):
        source = chance(1)
        for prime, most in ((2, 6), (3, 4), (5, 3), (7, 2)):
            parts = irreducible(prime, most)
            # A field of prime ** most numbers has so many lines: the parts of degree 1 are z - a for all a.
            self.assertEqual(len([part for part in parts if len(part) == 2]), prime)
            for _ in range(60):
                chosen = [source.choice(parts) for _ in range(source.randrange(1, 5))]
                chosen += chosen[:source.randrange(3)]
                whole = [1]
                for part in chosen:
                    whole = multiplied(prime, whole, part)
                wanted = sorted({len(part) - 1 for part in chosen})
                for modulus in (prime, prime ** 3, prime * 10):
                    turns = Turns(modulus, companion(modulus, whole[:-1]))
                    self.assertEqual(factor_degrees(turns, prime), wanted)

    def test_known_factors(self):
        # z ** 12 - 1 modulo 13 has only factors of degree 1; modulo 5 it has those of degrees 1 and 2.
        turns = Turns(13 * 5, companion(65, [64] + [0] * 11))
        self.assertEqual([factor_degrees(turns, 13), factor_degrees(turns, 5)], [[1], [1, 2]])
        for degree, places in ((5, (0, 2)), (11, (0, 2)), (40, (0, 19, 21, 38)), (41, (0, 3))):
            factors = [int(at in places) for at in range(degree)]
            self.assertEqual(factor_degrees(Turns(2, companion(2, factors)), 2), [degree])
        for prime in (10 ** 12 - 11, 999983):
            # A square and no square: z ** 2 - 4, z ** 2 - 4 times no square.
            self.assertEqual(factor_degrees(Turns(prime, companion(prime, [-4, 0])), prime), [1])
            root = [number for number in range(2, 50) if pow(number, (prime - 1) // 2, prime) == prime - 1][0]
            self.assertEqual(factor_degrees(Turns(prime, companion(prime, [-4 * root, 0])), prime), [2])
            self.assertEqual(factor_degrees(Turns(prime, ((5,),)), prime), [1])

    def test_any_matrix(self):
        # A matrix and its transpose, and a matrix written otherwise, have the same factors.
        source = chance(2)
        for prime, size in ((2, 7), (3, 5), (11, 4)):
            for _ in range(10):
                matrix = random_matrix(source, prime, size, size)
                turned = tuple(zip(*matrix))
                self.assertEqual(factor_degrees(Turns(prime, matrix), prime), factor_degrees(Turns(prime, turned), prime))


class Polynomials(unittest.TestCase):
    def test_divided(self):
        source = chance(3)
        for prime in (2, 3, 101):
            for _ in range(100):
                one = trimmed(list(random_matrix(source, prime, 1, source.randrange(1, 9))[0]))
                other = trimmed(list(random_matrix(source, prime, 1, source.randrange(1, 6))[0])) + [1]
                quotient, rest = divided(prime, one, other)
                self.assertLess(len(rest), len(other))
                product = multiplied(prime, quotient, other) if quotient else []
                size = max(len(product), len(rest), len(one))
                padded = [numbers + [0] * (size - len(numbers)) for numbers in (product, rest, one)]
                self.assertEqual([(a + b) % prime for a, b in zip(*padded[:2])], padded[2])

    def test_greatest_common(self):
        parts = irreducible(3, 3)
        for one, other, more in ((parts[0], parts[4], parts[5]), (parts[1], parts[2], parts[7])):
            left, right = multiplied(3, one, other), multiplied(3, one, more)
            common = greatest_common(3, left, right)
            self.assertEqual(len(common), len(one))
            self.assertEqual(divided(3, left, common)[1], [])
            self.assertEqual(divided(3, right, common)[1], [])
        self.assertEqual(greatest_common(3, parts[3], []), parts[3])

    def test_trimmed(self):
        self.assertEqual([trimmed([1, 0, 2, 0, 0]), trimmed([0, 0]), trimmed([])], [[1, 0, 2], [], []])


if __name__ == "__main__":
    unittest.main()
