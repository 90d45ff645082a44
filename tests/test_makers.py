"""Point 10: guards as people write them, and guards made of guards."""

import binascii
import itertools
import unittest
import zlib
from math import gcd

from guardsums import makers
from guardsums.errors import BadMatrix, BadModulus, BadNumber, BadPolynomial, BadSize, BadWidth, NotUndone, TooMany
from guardsums.guards import Guard
from guardsums.makers import behind_zeros, digits, mirrored, packed, pair, plain, remainder, table, turned
from guardsums.matrices import applied, identity, power
from tests.support import any_values, chance, random_block, random_matrix, random_undoable

NO_INTEGERS = [value for value in any_values() if not isinstance(value, int)] + [True, False, 1.0, b"1"]


def register(width, polynomial, start, end, block):
    """What is told of bits, by the words of the document."""
    state = start
    for bit in block:
        turn = (state >> (width - 1)) ^ bit
        state = (state << 1) & (2 ** width - 1)
        if turn:
            state ^= polynomial
    return tuple((state ^ end) >> place & 1 for place in reversed(range(width)))


def some_guards():
    source = chance(3)
    guards = [remainder(3, 3), remainder(1, 1, 1), plain(10), digits(97, 10), pair(7, 3), pair(255, 1)]
    for modulus in (2, 6, 9, 10 ** 18):
        for size, width in ((1, 1), (2, 3), (4, 2), (3, 5)):
            guards.append(Guard(
                modulus, random_undoable(source, modulus, size), random_matrix(source, modulus, size, width),
                random_matrix(source, modulus, 1, size)[0], random_matrix(source, modulus, 1, size)[0]))
    return guards


class Makers(unittest.TestCase):
    def raises(self, error, fields, call, *arguments):
        with self.assertRaises(error) as caught:
            call(*arguments)
        for name, value in fields.items():
            told = getattr(caught.exception, name)
            self.assertTrue(told is value or (type(told) is type(value) and told == value), (name, told, value))


class Document(Makers):
    def test_interface(self):
        for name in ("remainder", "plain", "digits", "pair", "packed", "mirrored", "turned", "behind_zeros", "table"):
            self.assertEqual(getattr(makers, name).__module__, "guardsums.makers")

    def test_examples(self):
        three = remainder(3, 3)
        self.assertEqual([three.told([(1,)]), three.told([(1,), (0,), (0,)]), behind_zeros(three, 3).told([(1,)])],
                         [(0, 1, 1), (1, 1, 1), (1, 0, 1)])
        self.assertEqual([packed(plain(10), 2).columns, table(packed(three, 2)), digits(97, 10).told([(1,), (2,), (3,)]),
                          pair(7).told([(1,), (2,)])],
                         [((1, 1),), ((0, 0, 0), (0, 1, 1), (1, 1, 0), (1, 0, 1)), (26,), (3, 4)])
        text = [tuple([byte // 2 ** (7 - k) % 2 for k in range(8)]) for byte in b"123456789"]
        self.assertEqual(packed(remainder(8, 7), 8).told(text), (1, 1, 1, 1, 0, 1, 0, 0))
        back = [[int(row + one == 15) for one in range(16)] for row in range(16)]
        told = turned(mirrored(packed(remainder(16, 0x8005), 8)), back).told(text)
        self.assertEqual(sum([told[k] * 2 ** (15 - k) for k in range(16)]), 0xBB3D)

    def test_known_sums(self):
        data = b"Guardsums: sums that guard a block"
        text = [tuple(byte >> place & 1 for place in reversed(range(8))) for byte in data]
        told = packed(remainder(16, 0x1021), 8).told(text)
        self.assertEqual(int("".join(map(str, told)), 2), binascii.crc_hqx(data, 0))
        self.assertEqual(pair(65521, 1).told([(byte,) for byte in data])[::-1],
                         divmod(zlib.adler32(data), 65536))


class Remainder(Makers):
    def test_against_a_register(self):
        source = chance(1)
        for width in range(1, 17):
            for _ in range(6):
                polynomial = source.randrange(2 ** width) | 1
                start, end = source.randrange(2 ** width), source.randrange(2 ** width)
                guard = remainder(width, polynomial, start, end)
                self.assertEqual((guard.modulus, guard.size, guard.width), (2, width, 1))
                for many in (0, 1, 2, 20):
                    block = [source.randrange(2) for _ in range(many)]
                    self.assertEqual(guard.told([(bit,) for bit in block]),
                                     register(width, polynomial, start, end, block))

    def test_all_small(self):
        for width in (1, 2, 3):
            for polynomial in range(1, 2 ** width, 2):
                for start, end in itertools.product(range(2 ** width), repeat=2):
                    for block in itertools.product(range(2), repeat=4):
                        self.assertEqual(remainder(width, polynomial, start, end).told([(bit,) for bit in block]),
                                         register(width, polynomial, start, end, block))

    def test_start_and_end_are_zero_unless_told(self):
        self.assertTrue(remainder(5, 7) == remainder(5, 7, 0) == remainder(5, 7, 0, 0))
        self.assertEqual(remainder(4, 3, 8, 1).start, (1, 0, 0, 0))
        self.assertEqual(remainder(4, 3, 8, 1).end, (0, 0, 0, 1))

    def test_width(self):
        for value in NO_INTEGERS + [0, -1, 17, 10 ** 39]:
            self.raises(BadWidth, {"width": value}, remainder, value, None, None, None)

    def test_polynomial(self):
        for value in NO_INTEGERS + [0, 2, 14, -1, 16, 17, 10 ** 39 + 1]:
            self.raises(BadPolynomial, {"polynomial": value}, remainder, 4, value, None, None)
        for value in (1, 15):
            self.assertEqual(remainder(4, value).size, 4)
        self.raises(BadPolynomial, {"polynomial": 3}, remainder, 1, 3)

    def test_numbers(self):
        for value in NO_INTEGERS + [-1, 16, 10 ** 39]:
            self.raises(BadNumber, {"number": value}, remainder, 4, 3, value, 99)
            self.raises(BadNumber, {"number": value}, remainder, 4, 3, 15, value)


class Sums(Makers):
    def test_plain(self):
        guard = plain(7)
        self.assertTrue(guard == Guard(7, [[1]], [[1]], [0], [0]))
        self.assertEqual(guard.told([(5,), (6,), (1,)]), (5,))

    def test_digits(self):
        for modulus, base in ((97, 10), (10, 3), (2, 1), (7, 6), (10 ** 18, 3)):
            guard = digits(modulus, base)
            self.assertTrue(guard == Guard(modulus, [[base]], [[1]], [0], [0]))
            block = [number % modulus for number in (5, 0, 8, 1)]
            number = 0
            for digit in block:
                number = (number * base + digit) % modulus
            self.assertEqual(guard.told([(digit,) for digit in block]), (number,))

    def test_pair(self):
        source = chance(2)
        for modulus, first in ((2, 0), (2, 1), (7, 3), (65521, 1), (10 ** 18, 10 ** 18 - 1)):
            guard = pair(modulus, first)
            one, two = first, 0
            block = random_block(source, modulus, 1, 12)
            for symbol in block:
                one = (one + symbol[0]) % modulus
                two = (two + one) % modulus
            self.assertEqual(guard.told(block), (one, two))
            self.assertEqual((guard.start, guard.end), ((first, 0), (0, 0)))
        self.assertTrue(pair(9) == pair(9, 0))

    def test_modulus(self):
        for value in NO_INTEGERS + [1, 0, -2, 10 ** 18 + 1]:
            self.raises(BadModulus, {"number": value}, plain, value)
            self.raises(BadModulus, {"number": value}, digits, value, None)
            self.raises(BadModulus, {"number": value}, pair, value, None)
        for modulus in (2, 10 ** 18):
            self.assertEqual([plain(modulus).modulus, digits(modulus, 1).modulus, pair(modulus).modulus], [modulus] * 3)

    def test_base_and_first(self):
        for value in NO_INTEGERS + [0, -1, 10, 11]:
            self.raises(BadNumber, {"number": value}, digits, 10, value)
        for value in NO_INTEGERS + [-1, 10, 11]:
            self.raises(BadNumber, {"number": value}, pair, 10, value)
        for base in (2, 4, 5, 6, 8):
            self.raises(NotUndone, {}, digits, 10, base)
        for modulus in range(2, 40):
            for base in range(1, modulus):
                if gcd(base, modulus) == 1:
                    self.assertEqual(digits(modulus, base).matrix, ((base,),))
                else:
                    self.raises(NotUndone, {}, digits, modulus, base)


class Packed(Makers):
    def test_tells_the_same(self):
        source = chance(4)
        for guard in some_guards():
            for times in (1, 2, 3, 5, 16):
                if times * guard.width <= 16:
                    new = packed(guard, times)
                    self.assertEqual((new.matrix, new.start, new.end, new.width),
                                     (power(guard.modulus, guard.matrix, times), guard.start, guard.end,
                                      times * guard.width))
                    for many in (0, 1, 2, 4):
                        block = random_block(source, guard.modulus, guard.width, many * times)
                        joined = [sum(block[at:at + times], ()) for at in range(0, many * times, times)]
                        self.assertEqual(new.told(joined), guard.told(block))

    def test_once(self):
        for guard in some_guards():
            self.assertTrue(packed(guard, 1) == guard)

    def test_errors(self):
        wide = Guard(10, [[1]], [[1] * 6], [0], [0])
        for value in NO_INTEGERS + [0, -1, 17, 10 ** 39]:
            self.raises(BadSize, {"size": value}, packed, plain(10), value)
            self.raises(BadSize, {"size": value}, packed, wide, value)
        for times in (3, 16):
            self.raises(TooMany, {"what": "numbers", "many": 6 * times, "most": 16}, packed, wide, times)
        self.assertEqual([packed(wide, 2).width, packed(plain(10), 16).width], [12, 16])


class Turned(Makers):
    def test_mirrored(self):
        source = chance(5)
        for guard in some_guards():
            new = mirrored(guard)
            self.assertEqual((new.modulus, new.matrix, new.start, new.end),
                             (guard.modulus, guard.matrix, guard.start, guard.end))
            block = random_block(source, guard.modulus, guard.width, 5)
            self.assertEqual(new.told([symbol[::-1] for symbol in block]), guard.told(block))
            self.assertTrue(mirrored(new) == guard)

    def test_turned(self):
        source = chance(6)
        for guard in some_guards():
            matrix = random_undoable(source, guard.modulus, guard.size)
            new = turned(guard, [list(row) for row in matrix])
            self.assertTrue(new == turned(guard, matrix))
            self.assertEqual(new.start, applied(guard.modulus, matrix, guard.start))
            for many in (0, 1, 4):
                block = random_block(source, guard.modulus, guard.width, many)
                self.assertEqual(new.told(block), applied(guard.modulus, matrix, guard.told(block)))
                state = random_matrix(source, guard.modulus, 1, guard.size)[0]
                self.assertEqual(new.behind(block, applied(guard.modulus, matrix, state)),
                                 applied(guard.modulus, matrix, guard.behind(block, state)))
            self.assertTrue(turned(guard, identity(guard.size)) == guard)

    def test_errors(self):
        guard = pair(10)
        for index in (0, 1):
            for value in any_values() + [[0], [0, 1, 2], [0, 10], [-1, 0], [True, 0], [None, 0], "10", {0: 1, 1: 0}]:
                matrix = [[1, 0], [0, 1]]
                matrix[index] = value
                self.raises(BadMatrix, {"index": index}, turned, guard, matrix)
        for many in (0, 1, 3, 17):
            self.raises(BadMatrix, {"index": many}, turned, guard, [[2, 0]] * many)
        self.raises(BadMatrix, {"index": 2}, turned, guard, [[1, 0], [0, 1], None])
        for matrix in ([[0, 0], [0, 0]], [[2, 0], [0, 1]], [[1, 1], [1, 1]], [[5, 2], [2, 0]]):
            self.raises(NotUndone, {}, turned, guard, matrix)

    def test_lists_are_as_before(self):
        matrix = [[1, 1], [0, 3]]
        new = turned(pair(10, 4), matrix)
        self.assertEqual(matrix, [[1, 1], [0, 3]])
        matrix[0][0] = 7
        self.assertTrue(new == turned(pair(10, 4), [[1, 1], [0, 3]]))


class Zeros(Makers):
    def test_small(self):
        source = chance(7)
        for guard in some_guards():
            for many in (0, 1, 2, 9):
                new = behind_zeros(guard, many)
                self.assertEqual((new.matrix, new.end), (guard.matrix, guard.end))
                for size in (0, 1, 3):
                    block = random_block(source, guard.modulus, guard.width, size)
                    self.assertEqual(new.told(block), guard.told(block + [(0,) * guard.width] * many))

    def test_great(self):
        new = behind_zeros(pair(7, 3), 10 ** 30)
        # 10 ** 30 leaves 1 modulo 7: one zero more.
        self.assertEqual([new.told([]), new.told([(2,)])], [pair(7, 3).told([(0,)]), pair(7, 3).told([(2,), (0,)])])
        self.assertEqual(behind_zeros(digits(97, 10), 10 ** 30).columns, ((pow(10, 10 ** 30, 97),),))

    def test_errors(self):
        for value in NO_INTEGERS + [-1, 10 ** 30 + 1, -10 ** 30]:
            self.raises(BadSize, {"size": value}, behind_zeros, plain(10), value)


class Table(Makers):
    def test_against_states(self):
        for guard in some_guards():
            if guard.modulus ** guard.width <= 4096:
                symbols = list(itertools.product(range(guard.modulus), repeat=guard.width))
                wanted = tuple(guard.behind([symbol], (0,) * guard.size) for symbol in symbols)
                self.assertEqual(table(guard), wanted)

    def test_greatest(self):
        for guard in (plain(4096), packed(plain(2), 12), packed(plain(16), 3), packed(plain(64), 2)):
            rows = table(guard)
            self.assertEqual((len(rows), rows[-1]), (4096, guard.behind([(guard.modulus - 1,) * guard.width], (0,))))

    def test_errors(self):
        for guard, many in ((plain(4097), 4097), (packed(plain(2), 13), 8192), (packed(plain(17), 3), 4913),
                            (plain(10 ** 18), 10 ** 18), (packed(plain(10 ** 18), 16), 10 ** 288)):
            self.raises(TooMany, {"what": "symbols", "many": many, "most": 4096}, table, guard)


if __name__ == "__main__":
    unittest.main()
