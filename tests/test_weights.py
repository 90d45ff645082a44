"""Point 18: unseen changes by their weight."""

import itertools
import math
import unittest

from guardsums import weights as module
from guardsums.cycles import Cycles
from guardsums.errors import BadSize, TooMany
from guardsums.guards import Guard
from guardsums.makers import digits, packed, pair, plain, remainder
from guardsums.matrices import identity
from guardsums.weights import first_length, least_weight, weights
from tests.support import (Checks, all_blocks, chance, companion, dot, no_integers, random_guard, rows_of,
                           state_behind, told)

GREAT = 10 ** 30


def by_trying(guard, length):
    """How many unseen changes of each weight there are, by trying all of them."""
    zeros = told(guard, [(0,) * guard.width] * length)
    found = [0] * (length + 1)
    for block in all_blocks(guard, length):
        if told(guard, block) == zeros:
            found[sum(any(symbol) for symbol in block)] += 1
    return found


def by_states(guard, length, most):
    """The same, symbol by symbol: how many changes of each weight lead to each state."""
    none = Guard(guard.modulus, guard.matrix, guard.columns, [0] * guard.size, [0] * guard.size)
    steps = {row: [(state_behind(none, [symbol], row), int(any(symbol))) for symbol in rows_of(guard.modulus, guard.width)]
             for row in rows_of(guard.modulus, guard.size)}
    now = {((0,) * guard.size, 0): 1}
    for _ in range(length):
        behind = {}
        for (state, weight), many in now.items():
            for further, more in steps[state]:
                if weight + more <= most:
                    key = further, weight + more
                    behind[key] = behind.get(key, 0) + many
        now = behind
    return tuple(now.get(((0,) * guard.size, weight), 0) for weight in range(most + 1))


class Weights(Checks):
    def test_interface(self):
        self.defined(module, ("weights", "least_weight", "first_length"))

    def test_document(self):
        guard = Guard(4, [[1]], [[1]], [0], [0])
        self.assertEqual([weights(guard, 2, 2), least_weight(guard, 1), weights(Guard(4, [[1]], [[2]], [0], [0]), 2, 3)],
                         [(1, 0, 3), None, (1, 2, 5, 0)])
        three = Guard(2, [[0, 1, 0], [1, 0, 1], [1, 0, 0]], [[0], [0], [1]], [0, 0, 0], [0, 0, 0])
        self.assertEqual([first_length(three, 2), least_weight(three, 7),
                          weights(guard, GREAT, 2)[2] == 3 * GREAT * (GREAT - 1) // 2], [8, 3, True])

    def test_all_changes_of_small_guards(self):
        source = chance(1)
        for modulus, size, width, most in ((2, 1, 1, 8), (2, 2, 1, 8), (2, 3, 1, 8), (3, 1, 1, 6), (3, 2, 1, 6), (4, 1, 1, 5),
                                           (4, 2, 1, 5), (6, 1, 1, 4), (2, 2, 2, 4), (2, 3, 2, 4), (12, 1, 1, 3), (3, 2, 2, 3)):
            for turn in range(5):
                guard = random_guard(source, modulus, size, width)
                for length in range(most + 1):
                    found = by_trying(guard, length)
                    for cut in {0, 1, length, length + 1, length + 3}:
                        self.assertEqual(weights(guard, length, cut), tuple((found + [0] * cut)[:cut + 1]))
                    wanted = [weight for weight in range(1, length + 1) if found[weight]]
                    self.assertEqual(least_weight(guard, length), wanted[0] if wanted else None)

    def test_symbol_by_symbol(self):
        source = chance(2)
        for modulus, size, width, length in ((2, 4, 1, 60), (3, 2, 1, 45), (4, 2, 1, 30), (6, 1, 2, 20), (2, 3, 3, 25), (5, 1, 1, 70)):
            guard = random_guard(source, modulus, size, width)
            for many in (length, length // 2, 40, 41):
                if many <= length:
                    self.assertEqual(weights(guard, many, 40), by_states(guard, many, 40))

    def test_great_lengths(self):
        # One number modulo M: the changes that add up to 0, from all sums over the roots of 1 of integers.
        for modulus in (2, 3, 10):
            for length in (GREAT, 10 ** 40 - 1):
                told_weights = weights(plain(modulus), length, 40)
                for weight in (0, 1, 2, 3, 7, 40):
                    each = ((modulus - 1) ** weight + (modulus - 1) * (-1) ** weight) // modulus
                    self.assertEqual(told_weights[weight], math.comb(length, weight) * each)

    def test_pairs_in_great_lengths(self):
        source = chance(3)
        for modulus, size, width in ((2, 3, 1), (2, 4, 1), (3, 2, 1), (4, 2, 1), (2, 2, 2), (6, 1, 1)):
            guard = random_guard(source, modulus, size, width)
            symbols = [symbol for symbol in rows_of(modulus, width) if any(symbol)]
            none = Guard(modulus, guard.matrix, guard.columns, [0] * size, [0] * size)
            zero = (0,) * size
            alone = sum(state_behind(none, [symbol], zero) == zero for symbol in symbols)
            # Steps come round behind some number of turns: pairs so far apart are as those that are as far more.
            turns, states = 1, [state_behind(none, [(0,) * width], row) for row in identity(size)]
            while states != list(identity(size)):
                turns, states = turns + 1, [state_behind(none, [(0,) * width], row) for row in states]
            near = [sum(state_behind(none, [one] + [(0,) * width] * (apart - 1) + [other], zero) == zero
                        for one in symbols for other in symbols) for apart in range(1, turns + 1)]
            for length in (GREAT, GREAT + 1, 3 * turns - 1, 5):
                pairs = 0
                for at, many in enumerate(near):
                    # at + 1, at + 1 + turns, .. below length: for each the places that are left.
                    count = max(0, (length - 1 - (at + 1)) // turns + 1)
                    pairs += many * (count * (length - at - 1) - turns * count * (count - 1) // 2)
                self.assertEqual(weights(guard, length, 2), (1, alone * length, pairs))

    def test_known_codes(self):
        # Remainders by z ** 3 + z + 1 over seven bits are a code of Hamming; with eleven bits that of Golay.
        self.assertEqual(weights(remainder(3, 3), 7, 7), (1, 0, 0, 7, 7, 0, 0, 1))
        self.assertEqual(weights(remainder(4, 3), 15, 5), (1, 0, 0, 35, 105, 168))
        golay = remainder(11, 0b10001110101 & 2 ** 11 - 1)
        told_weights = weights(golay, 23, 23)
        self.assertEqual([weight for weight in range(24) if told_weights[weight]], [0, 7, 8, 11, 12, 15, 16, 23])
        self.assertEqual([told_weights[weight] for weight in (7, 8, 11, 12)], [253, 506, 1288, 1288])
        three = Guard(3, companion(3, [2, 0, 1, 2, 1]), [[1]] + [[0]] * 4, [0] * 5, [0] * 5)
        self.assertEqual(least_weight(three, 11), 5)
        self.assertEqual(weights(three, 11, 11), (1, 0, 0, 0, 0, 132, 132, 0, 330, 110, 0, 24))

    def test_start_and_end_do_not_matter(self):
        for guard, other in ((pair(7), pair(7, 3)), (remainder(5, 5), remainder(5, 5, 17, 9))):
            self.assertEqual(weights(guard, 50, 10), weights(other, 50, 10))
            self.assertEqual(first_length(guard, 3), first_length(other, 3))

    def test_no_length_and_no_weight(self):
        for guard in (plain(10), pair(7), packed(remainder(4, 3), 4)):
            self.assertEqual(weights(guard, 0, 0), (1,))
            self.assertEqual(weights(guard, 0, 40), (1,) + (0,) * 40)
            self.assertEqual(weights(guard, 10 ** 40 - 1, 0), (1,))
            self.assertIsNone(least_weight(guard, 0))
            self.assertEqual(len(weights(guard, GREAT, 40)), 41)
            self.assertIs(type(weights(guard, GREAT, 40)), tuple)

    def test_greatest_guards(self):
        for guard in (plain(4096), pair(64), remainder(12, 0x80F), Guard(8, identity(4), [[1] * 16] * 4, [0] * 4, [0] * 4)):
            found = weights(guard, 50, 2)
            self.assertEqual(len(found), 3)
            self.assertEqual(weights(guard, 1, 1)[1] + 1, guard.modulus ** guard.width // len(
                {tuple(sum(a * b for a, b in zip(row, symbol)) % guard.modulus for row in guard.columns)
                 for symbol in (rows_of(guard.modulus, guard.width) if guard.width == 1 else
                                [(number,) + (0,) * 15 for number in range(guard.modulus)])}))


class Least(Checks):
    def test_least_weights(self):
        source = chance(4)
        for modulus, size, width in ((2, 6, 1), (3, 3, 1), (4, 3, 1), (6, 2, 1), (2, 8, 2), (2, 12, 1)):
            for _ in range(5):
                guard = random_guard(source, modulus, size, width)
                for length in (1, 2, 3, size, size + 1, size + 2, 50, GREAT):
                    found = weights(guard, length, 40)
                    wanted = [weight for weight in range(1, 41) if found[weight]]
                    self.assertEqual(least_weight(guard, length), wanted[0] if wanted else None)

    def test_as_great_as_can_be(self):
        # Each number its own place: no change of k symbols passes.
        for modulus, size in ((2, 12), (3, 5)):
            shift = [[int(at == row - 1) for at in range(size)] for row in range(size)]
            shift[0][size - 1] = 1
            guard = Guard(modulus, shift, [[1]] + [[0]] * (size - 1), [0] * size, [0] * size)
            self.assertIsNone(least_weight(guard, size))
            self.assertEqual(least_weight(guard, size + 1), 2)
        # Sums of 0, 1, .. times each symbol modulo a prime: all of k symbols count.
        prime = 13
        rows = [[math.comb(row, at) % prime for at in range(3)] for row in range(3)]
        guard = Guard(prime, rows, [[1], [0], [0]], [0] * 3, [0] * 3)
        self.assertEqual([least_weight(guard, length) for length in (3, 4, 13, 14)], [None, 4, 4, 2])
        self.assertEqual([first_length(guard, weight) for weight in (1, 2, 3, 4, 5, 40)], [None, 14, 14, 4, 4, 4])

    def test_first_lengths(self):
        source = chance(5)
        for modulus, size, width in ((2, 3, 1), (2, 5, 1), (3, 2, 1), (4, 2, 1), (2, 4, 2), (6, 1, 1), (2, 7, 1), (9, 1, 1)):
            for _ in range(6):
                guard = random_guard(source, modulus, size, width)
                for weight in (1, 2, 3, 4, 40):
                    wanted = [length for length in range(1, 140) if any(weights(guard, length, weight)[1:])]
                    found = first_length(guard, weight)
                    if wanted:
                        self.assertEqual(found, wanted[0])
                    else:
                        self.assertTrue(found is None or found >= 140)

    def test_around_the_greatest_length(self):
        # Two ones meet where z comes round, in blocks of one symbol more: behind 1,953 turns for the product of a
        # register of 63 and one of 31, behind 2,044 for one of 511 with (z + 1) ** 3 beside it.
        def polynomial_product(one, other):
            return [sum(one[at] * other[place - at] for at in range(len(one)) if 0 <= place - at < len(other)) % 2
                    for place in range(len(one) + len(other) - 1)]

        def register(factors):
            size = len(factors) - 1
            return Guard(2, companion(2, factors[:-1]), [[1]] + [[0]] * (size - 1), [0] * size, [0] * size)

        of_63, of_31, of_511 = [1, 1, 0, 0, 0, 0, 1], [1, 0, 1, 0, 0, 1], [1, 0, 0, 0, 1, 0, 0, 0, 0, 1]
        late = register(polynomial_product(of_63, of_31))
        self.assertEqual([first_length(late, 1), first_length(late, 2)], [None, 1954])
        self.assertEqual([least_weight(late, 1954), weights(late, 1953, 2), weights(late, 1954, 2)],
                         [2, (1, 0, 0), (1, 0, 1)])
        for factors, turns in ((polynomial_product(of_511, [1, 1, 1, 1]), 2044), ([1, 0, 1] + [0] * 8 + [1], 2047)):
            later = register(factors)
            self.assertIsNone(first_length(later, 2))
            self.assertEqual([weights(later, turns, 2), weights(later, turns + 1, 2)], [(1, 0, 0), (1, 0, 1)])

    def test_known_sums(self):
        self.assertEqual([first_length(pair(63), weight) for weight in (1, 2, 3)], [None, 4, 3])
        self.assertEqual([first_length(digits(1999, 3), weight) for weight in (1, 2)], [None, 2])
        self.assertEqual([first_length(Guard(10, [[1]], [[5]], [0], [0]), weight) for weight in (1, 2)], [1, 1])


class Rows(Checks):
    def test_rows_that_are_not_zero(self):
        source = chance(6)
        for modulus, size, width in ((2, 3, 1), (3, 2, 2), (4, 2, 1), (6, 1, 1), (2, 5, 1)):
            guard = random_guard(source, modulus, size, width)
            cycles = Cycles(guard)
            for length in (0, 1, 2, 3, 7, 50):
                wanted = {}
                for row in rows_of(modulus, size):
                    met, now = 0, row
                    for _ in range(length):
                        met += any(dot(modulus, now, column) for column in zip(*guard.columns))
                        now = tuple(dot(modulus, now, column) for column in zip(*guard.matrix))
                    wanted[met] = wanted.get(met, 0) + 1
                self.assertEqual(cycles.counts(length), wanted)


class Wrong(Checks):
    def test_states(self):
        for guard, many in ((plain(4097), 4097), (pair(65), 4225), (remainder(13, 3), 8192), (remainder(16, 3), 65536),
                            (plain(10 ** 18), 10 ** 18), (Guard(3, identity(8), [[1]] * 8, [0] * 8, [0] * 8), 6561),
                            (Guard(10 ** 18, identity(16), [[1]] * 16, [0] * 16, [0] * 16), 10 ** 288)):
            fields = {"what": "states", "many": many, "most": 4096}
            self.raises(TooMany, fields, weights, guard, None, None)
            self.raises(TooMany, fields, least_weight, guard, None)
            self.raises(TooMany, fields, first_length, guard, None)
        for guard in (plain(4096), pair(64), remainder(12, 3), Guard(16, identity(3), [[1]] * 3, [0] * 3, [0] * 3)):
            self.assertEqual(weights(guard, 3, 0), (1,))

    def test_lengths(self):
        guard = plain(10)
        for value in no_integers() + [-1, -GREAT]:
            self.raises(BadSize, {"size": value}, weights, guard, value, None)
            self.raises(BadSize, {"size": value}, least_weight, guard, value)

    def test_most(self):
        guard = plain(10)
        for value in no_integers() + [-1, 41, GREAT]:
            self.raises(BadSize, {"size": value}, weights, guard, 3, value)
        for value in no_integers() + [0, -1, 41, GREAT]:
            self.raises(BadSize, {"size": value}, first_length, guard, value)
        self.assertEqual([len(weights(guard, 3, value)) for value in (0, 1, 39, 40)], [1, 2, 40, 41])
        self.assertEqual([first_length(guard, value) for value in (1, 40)], [None, 2])

    def test_equal_calls(self):
        one = Guard(6, [[1, 2], [3, 1]], [[1], [3]], [0, 0], [0, 0])
        other = Guard(6, ((1, 2), (3, 1)), ((1,), (3,)), (0, 0), (0, 0))
        self.assertEqual(weights(one, 9, 5), weights(other, 9, 5))
        for length, most in itertools.product((0, 3, GREAT), (0, 4)):
            self.assertEqual(weights(one, length, most), weights(one, length, most))


if __name__ == "__main__":
    unittest.main()
