"""Point 14: how soon a step comes round."""

import itertools
import math
import unittest

from guardsums import orders as module
from guardsums.errors import BadModulus, NotUndone, TooMany
from guardsums.matrices import applied, identity, power
from guardsums.orders import Order, is_order, line_order, order
from guardsums.residues import primes
from tests.support import (Checks, any_values, blocks_of, chance, companion, no_integers, random_matrix,
                           random_undoable, rows_of)

TURN = ((0, 0, 1), (1, 0, 1), (0, 1, 0))
GREAT_PRIME = 10 ** 12 - 11


def turns_until(modulus, matrix, row, home):
    """The least number of turns behind which a row is among these, by taking one after the other."""
    row, many = applied(modulus, matrix, row), 1
    while row not in home:
        row, many = applied(modulus, matrix, row), many + 1
    return many


def primes_of(number):
    return tuple(part for part in range(2, number + 1) if number % part == 0
                 and all(part % less for less in range(2, math.isqrt(part) + 1)))


class Orders(Checks):
    def check(self, modulus, matrix, row):
        home = {tuple(number % modulus for number in row)}
        told = order(modulus, matrix, row)
        self.assertIs(type(told), Order)
        self.assertEqual((told.number, told.primes),
                         (turns_until(modulus, matrix, row, home), primes_of(told.number)))
        self.assertIs(is_order(modulus, matrix, row, told), True)

    def check_line(self, prime, matrix, row):
        home = {tuple(factor * number % prime for number in row) for factor in range(prime)}
        told = line_order(prime, matrix, row)
        self.assertIs(type(told), Order)
        self.assertEqual((told.number, told.primes),
                         (turns_until(prime, matrix, row, home), primes_of(told.number)))

    def test_interface(self):
        self.defined(module, ("order", "line_order", "Order", "is_order"))

    def test_document(self):
        self.assertEqual([order(2, TURN, (1, 0, 0)).number, order(4, ((1, 0), (1, 1)), (1, 1)).number,
                          order(6, ((5,),), (3,)).number], [7, 4, 1])
        self.assertEqual([line_order(7, ((3,),), (1,)).number, order(7, ((3,),), (1,)).primes,
                          is_order(7, ((3,),), (1,), Order(6, (2, 3)))], [1, (2, 3), True])

    def test_all_small_matrices(self):
        for modulus, size in ((2, 1), (3, 1), (4, 1), (6, 1), (9, 1), (12, 1), (2, 2), (3, 2), (4, 2)):
            for numbers in itertools.product(range(modulus), repeat=size * size):
                matrix = tuple(numbers[at * size:at * size + size] for at in range(size))
                if not undoable(modulus, matrix):
                    self.raises(NotUndone, {}, order, modulus, matrix, (0,) * size)
                    continue
                for row in rows_of(modulus, size):
                    self.check(modulus, matrix, row)
                    if modulus in (2, 3):
                        self.check_line(modulus, matrix, row)

    def test_random(self):
        source = chance(1)
        for modulus, size in ((2, 8), (3, 5), (5, 3), (8, 3), (9, 3), (12, 2), (30, 2), (64, 2), (81, 2), (97, 2), (36, 3)):
            for _ in range(8):
                matrix, row = random_undoable(source, modulus, size), random_matrix(source, modulus, 1, size)[0]
                self.check(modulus, matrix, row)
                # Any integers that are the same modulo M do.
                other = tuple(tuple(number + modulus * source.randrange(-9, 9) for number in line) for line in matrix)
                self.assertEqual(vars(order(modulus, other, tuple(number - modulus for number in row))),
                                 vars(order(modulus, matrix, row)))

    def test_random_lines(self):
        source = chance(2)
        for prime, size in ((2, 7), (3, 5), (5, 4), (7, 3), (13, 3), (97, 2)):
            for _ in range(8):
                self.check_line(prime, random_undoable(source, prime, size), random_matrix(source, prime, 1, size)[0])

    def test_row_of_zeros(self):
        source = chance(3)
        for modulus in (2, 12, 97, 10 ** 12):
            for size in (1, 3):
                matrix = random_undoable(source, modulus, size)
                if modulus in (2, 97):
                    self.assertEqual(vars(line_order(modulus, matrix, (0,) * size)), {"number": 1, "primes": ()})
                if modulus < 10 ** 12 or size == 1:
                    for row in ((0,) * size, (modulus,) * size):
                        self.assertEqual(vars(order(modulus, matrix, row)), {"number": 1, "primes": ()})
                        self.assertIs(is_order(modulus, matrix, row, Order(1, ())), True)

    def test_powers_of_primes(self):
        # Sums of sums come round behind so many turns as the modulus; longer rows of them take more.
        for modulus in (2, 4, 8, 3, 9, 27, 2 ** 39, 3 ** 25, 10 ** 12, 5 ** 17):
            self.assertEqual(order(modulus, ((1, 0), (1, 1)), (1, 0)).number, modulus)
            self.assertEqual(order(modulus, ((1, 0), (1, 1)), (0, 1)).number, 1)
        for size, wanted in ((3, 4), (4, 4), (5, 8), (8, 8), (9, 16), (16, 16)):
            matrix = tuple(tuple(int(at in (row, row - 1)) for at in range(size)) for row in range(size))
            self.assertEqual(order(2, matrix, (1,) + (0,) * (size - 1)).number, wanted)
            self.assertEqual(order(8, matrix, (1,) + (0,) * (size - 1)).number, wanted * 4)
            self.assertEqual(line_order(2, matrix, (1,) + (0,) * (size - 1)).number, wanted)

    def test_modulus_of_many_primes(self):
        source, modulus = chance(4), 200560490130
        self.assertEqual(len(primes(modulus)), 11)
        for size in (1, 2, 3):
            matrix, row = random_undoable(source, modulus, size), random_matrix(source, modulus, 1, size)[0]
            told = order(modulus, matrix, row)
            parts = [order(prime, matrix, row).number for prime in primes(modulus)]
            self.assertEqual(told.number, math.lcm(*parts))
            self.assertIs(is_order(modulus, matrix, row, told), True)

    def test_great_primes(self):
        for prime in (GREAT_PRIME, 999983, 2 ** 20 - 3):
            told = order(prime, ((2,),), (5,))
            self.assertEqual(pow(2, told.number, prime), 1)
            for part in told.primes:
                self.assertNotEqual(pow(2, told.number // part, prime), 1)
            self.assertEqual((prime - 1) % told.number, 0)
            self.assertEqual(line_order(prime, ((2,),), (5,)).number, 1)
        # 4 and its root part: the line of (1, 1) is there again when 4 ** n is 9 ** n.
        told = line_order(GREAT_PRIME, ((4, 0), (0, 9)), (1, 1))
        back = 4 * pow(9, -1, GREAT_PRIME) % GREAT_PRIME
        self.assertEqual(told.number, order(GREAT_PRIME, ((back,),), (1,)).number)
        self.assertIs(is_order(GREAT_PRIME, ((back,),), (1,), told), True)

    def test_great_factors(self):
        # z ** 40 + z ** 38 + z ** 21 + z ** 19 + 1 comes round as late as can be.
        matrix = companion(2, [int(at in (0, 19, 21, 38)) for at in range(40)])
        told = order(2, matrix, (1,) + (0,) * 39)
        self.assertEqual((told.number, told.primes), (2 ** 40 - 1, (3, 5, 11, 17, 31, 41, 61681)))
        self.assertIs(is_order(2, matrix, (1,) + (0,) * 39, told), True)
        # The greatest prime whose square is let, and the first one whose square is not.
        for prime, let in ((2 ** 20 - 3, True), (2 ** 20 + 7, False)):
            root = [number for number in range(2, 50) if pow(number, (prime - 1) // 2, prime) == prime - 1][0]
            matrix = ((0, root), (1, 0))
            if let:
                told = order(prime, ((1, root), (1, 1)), (1, 0))
                self.assertEqual((prime ** 2 - 1) % told.number, 0)
                self.assertIs(is_order(prime, ((1, root), (1, 1)), (1, 0), told), True)
                self.assertEqual(line_order(prime, matrix, (1, 0)).number, 2)
            else:
                fields = {"what": "turns", "many": prime ** 2, "most": 2 ** 40}
                for row in ((1, 0), (0, 0)):
                    self.raises(TooMany, fields, order, prime, matrix, row)
                    self.raises(TooMany, fields, line_order, prime, matrix, row)
                # Those that part into such of degree 1 are let.
                self.assertEqual(order(prime, ((0, 4), (1, 0)), (1, 0)).number % 2, 0)
                # What comes round so late is judged all the same.
                self.assertIs(is_order(prime, matrix, (0, 0), Order(1, ())), True)
                many = 2 * order(prime, ((root,),), (1,)).number
                self.assertIs(is_order(prime, matrix, (1, 0), Order(many, primes(many))), True)

    def test_least_prime_and_least_degree(self):
        long = companion(2, [int(at in (0, 3)) for at in range(41)])
        self.raises(TooMany, {"what": "turns", "many": 2 ** 41, "most": 2 ** 40}, order, 2, long, (0,) * 41)
        # z ** 2 less no square, z ** 3 less no cube.
        prime = 1048609
        self.assertEqual((primes(prime), prime % 3), ((prime,), 1))
        square = companion(prime, [-[number for number in range(2, 50)
                                     if pow(number, (prime - 1) // 2, prime) != 1][0], 0])
        cubic = companion(prime, [-[number for number in range(2, 50)
                                    if pow(number, (prime - 1) // 3, prime) != 1][0], 0, 0])
        for parts, degree in (([square], 2), ([((3,),), square], 2), ([cubic], 3), ([cubic, square], 2),
                              ([square, cubic, ((1,),)], 2), ([cubic, ((5,),), cubic], 3)):
            matrix = blocks_of(parts)
            fields = {"what": "turns", "many": prime ** degree, "most": 2 ** 40}
            # Modulo the lesser primes of the other modulus nothing moves: there is no more than degree 1.
            other = tuple(tuple(number + (int(row == at) - number) * prime * pow(prime, -1, 720720)
                                for at, number in enumerate(line)) for row, line in enumerate(matrix))
            for row in ((0,) * len(matrix), (1,) * len(matrix)):
                self.raises(TooMany, fields, order, prime, matrix, row)
                self.raises(TooMany, fields, order, prime * 720720, other, row)
                self.assertEqual(order(720720, other, row).number, 1)
            self.raises(TooMany, fields, line_order, prime, matrix, (1,) * len(matrix))

    def test_least_prime_of_two(self):
        # 10007 and 10009: cubics without a root modulo both are above 2 ** 40 already at degree 4.
        one, other = 10007, 10009
        source = chance(5)
        fields = []
        while len(fields) < 5:
            factors = [source.randrange(1, one * other) for _ in range(4)]
            matrix = companion(one * other, factors)
            if undoable(one * other, matrix):
                told = []
                for prime in (one, other):
                    try:
                        order(prime, matrix, (1, 0, 0, 0))
                    except TooMany as error:
                        told.append(error.many)
                        self.assertEqual((error.what, error.most, error.many), ("turns", 2 ** 40, prime ** 4))
                if told:
                    fields.append(told[0])
                    self.raises(TooMany, {"what": "turns", "many": told[0], "most": 2 ** 40}, order, one * other, matrix,
                                (1, 0, 0, 0))
        self.assertEqual(set(fields), {one ** 4, other ** 4})


def undoable(modulus, matrix):
    """Whether the matrix can be undone, by its determinant."""
    return math.gcd(determinant(matrix), modulus) == 1


def determinant(matrix):
    if len(matrix) == 1:
        return matrix[0][0]
    return sum((-1) ** at * matrix[0][at] * determinant([row[:at] + row[at + 1:] for row in matrix[1:]])
               for at in range(len(matrix)))


class Judged(Checks):
    def test_numbers(self):
        row = (1, 0, 0)
        for number in range(-3, 30):
            for parts in ((), (7,), (2, 7), (3, 7), (7, 2), (7, 7), (2,), (3,), (14,), (-7,), (5, 7)):
                self.assertIs(is_order(2, TURN, row, Order(number, parts)), (number, parts) == (7, (7,)))
        self.assertIs(is_order(2, TURN, row, Order(7, [7])), True)
        # A multiple of the right one is no order, though its primes are told.
        for number in (14, 21, 49, 7 * 10 ** 38):
            self.assertIs(is_order(2, TURN, row, Order(number, primes_of(number) if number < 100 else (2, 5, 7))), False)

    def test_primes_must_be_primes(self):
        # Behind 8 turns 3 is there again modulo 32, behind 4 and 2 it is not.
        self.assertIs(is_order(32, ((3,),), (1,), Order(8, (2,))), True)
        for parts in ((4,), (8,), (2, 4), (2, 2), (), (1, 2), (2, 3), (-2,), (True, 2), (2, None), ("2",), ((2,),), (0, 2)):
            self.assertIs(is_order(32, ((3,),), (1,), Order(8, parts)), False)
        # 35 turns, 5 and 7 being primes, 35 none.
        matrix = blocks_of([companion(2, [1, 1, 1, 1]), TURN])
        row = (1, 0, 0, 0, 1, 0, 0)
        self.assertEqual(order(2, matrix, row).primes, (5, 7))
        self.assertIs(is_order(2, matrix, row, Order(35, (35,))), False)
        self.assertIs(is_order(2, matrix, row, Order(35, (5, 7))), True)

    def test_primes_above_the_greatest(self):
        # The order is such a prime times 2, but a greater prime is not let.
        self.assertIs(is_order(GREAT_PRIME, ((1,),), (1,), Order(2 ** 41 + 27, (2 ** 41 + 27,))), False)
        prime = 2 ** 61 - 1
        self.assertIs(is_order(2, ((1,),), (1,), Order(prime, (prime,))), False)

    def test_any_values(self):
        for value in any_values() + [7, (7,), -1]:
            wanted = value == (7,) and type(value) is tuple
            self.assertIs(is_order(2, TURN, (1, 0, 0), Order(7, value)), wanted)
            if type(value) is not int or value != 7:
                self.assertIs(is_order(2, TURN, (1, 0, 0), Order(value, (7,))), False)
        self.assertIs(is_order(2, TURN, (0, 0, 0), Order(True, ())), False)
        self.assertIs(is_order(2, TURN, (0, 0, 0), Order(1, None)), False)

    def test_fields(self):
        parts = [2, [3]]
        told = Order(6, parts)
        parts[1].append(5)
        self.assertEqual(vars(told), {"number": 6, "primes": (2, (3,))})
        for value in any_values():
            if not isinstance(value, (list, tuple, dict)):
                self.assertIs(Order(value, 1).number, value)
                self.assertIs(Order(1, value).primes, value)
        self.assertEqual(Order([1, [2]], [[]]).number, (1, (2,)))


class Wrong(Checks):
    def test_modulus(self):
        for value in no_integers() + [1, 0, -2, 10 ** 12 + 1, 10 ** 40 - 1]:
            for matrix in (TURN, ((0,),)):
                self.raises(BadModulus, {"number": value}, order, value, matrix, (0,) * len(matrix))
                self.raises(BadModulus, {"number": value}, line_order, value, matrix, (0,) * len(matrix))
                self.raises(BadModulus, {"number": value}, is_order, value, matrix, (0,) * len(matrix), Order(1, ()))
        for value in (4, 6, 9, 10 ** 12, 999983 * 999979, 25, 2 ** 39):
            self.raises(BadModulus, {"number": value}, line_order, value, ((0,),), (0,))
        self.assertEqual(order(10 ** 12, ((1,),), (1,)).number, 1)

    def test_primes_up_to_the_greatest(self):
        for value in (10 ** 12 + 39, 10 ** 12 + 61):
            self.raises(BadModulus, {"number": value}, line_order, value, ((1,),), (1,))
        for value in (2, 3, 5, 97, 999983, GREAT_PRIME):
            self.assertEqual(line_order(value, ((1,),), (1,)).number, 1)

    def test_not_undone(self):
        for modulus, matrix in ((10, ((2,),)), (10, ((5,),)), (7, ((0,),)), (2, ((1, 1), (1, 1))), (6, ((2, 0), (0, 3)))):
            self.raises(NotUndone, {}, order, modulus, matrix, (0,) * len(matrix))
            self.raises(NotUndone, {}, is_order, modulus, matrix, (0,) * len(matrix), Order(None, None))
        self.raises(NotUndone, {}, line_order, 7, ((7,),), (0,))
        # It is due ahead of what is too much.
        prime = 1048583
        singular = blocks_of([companion(prime, [-5, 0]), ((0,),)])
        self.raises(NotUndone, {}, order, prime, singular, (0, 0, 0))
        self.raises(NotUndone, {}, line_order, prime, singular, (0, 0, 0))

    def test_equal_calls(self):
        source = chance(6)
        matrix, row = random_undoable(source, 36, 3), (1, 2, 3)
        self.assertEqual(vars(order(36, matrix, row)), vars(order(36, matrix, row)))
        self.assertEqual(power(36, matrix, order(36, matrix, row).number * 0), identity(3))


if __name__ == "__main__":
    unittest.main()
