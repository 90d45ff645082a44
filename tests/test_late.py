"""Point 21: how late the modulo may be taken."""

import itertools
import unittest

from guardsums import late as module
from guardsums.errors import BadModulus, BadSize
from guardsums.guards import Guard
from guardsums.late import late
from guardsums.makers import behind_zeros, digits, packed, pair, plain, remainder
from guardsums.matrices import identity
from tests.support import Checks, chance, no_integers, random_guard

GREAT = 10 ** 18


def stepped(guard, state, symbol):
    """The state behind a symbol, in integers."""
    return tuple(sum(a * b for a, b in zip(row, state)) + sum(a * b for a, b in zip(more, symbol))
                 for row, more in zip(guard.matrix, guard.columns))


def step_by_step(guard, most, bits, stop):
    """The greatest number of symbols by taking the greatest ones; stop if it is not below that."""
    state, symbol = (guard.modulus - 1,) * guard.size, (most,) * guard.width
    for many in range(stop):
        state = stepped(guard, state, symbol)
        if max(state) >= 2 ** bits:
            return many
    return stop


def all_states(guard, most, bits, stop):
    """The greatest number of symbols, by all states and all symbols; stop if it is not below that."""
    states = set(itertools.product(range(guard.modulus), repeat=guard.size))
    for many in range(stop):
        states = {stepped(guard, state, symbol) for state in states
                  for symbol in itertools.product(range(most + 1), repeat=guard.width)}
        if any(max(state) >= 2 ** bits for state in states):
            return many
    return stop


class Late(Checks):
    def test_interface(self):
        self.defined(module, ("late",))

    def test_document(self):
        self.assertEqual([late(pair(65521, 1), 255, 32), late(pair(255), 255, 32), late(plain(10), 9, 8),
                          late(plain(10), 0, 8)], [5552, 5802, 27, None])

    def test_all_states_and_symbols(self):
        source = chance(1)
        for modulus, size, width in ((2, 1, 1), (2, 2, 1), (3, 1, 1), (3, 2, 1), (4, 1, 2), (2, 2, 2), (5, 1, 1)):
            for _ in range(5):
                guard = random_guard(source, modulus, size, width)
                for most, bits in ((0, 3), (1, 3), (2, 4), (3, 3)):
                    if modulus <= 2 ** bits:
                        told, wanted = late(guard, most, bits), all_states(guard, most, bits, 12)
                        self.assertEqual(12 if told is None else min(told, 12), wanted)

    def test_step_by_step(self):
        source, found = chance(2), {}
        for modulus, size, width in ((2, 1, 1), (2, 5, 1), (7, 1, 1), (12, 2, 1), (255, 2, 2), (GREAT, 1, 1), (10, 3, 16), (2, 16, 1)):
            for _ in range(8):
                guard = random_guard(source, modulus, size, width)
                for most, bits in ((0, 60), (1, 60), (255, 64), (0, 128), (GREAT, 128), (9, 8), (1, 4)):
                    if modulus <= 2 ** bits:
                        told = late(guard, most, bits)
                        wanted = step_by_step(guard, most, bits, 400)
                        self.assertEqual(400 if told is None else min(told, 400), wanted)
                        found[wanted] = True
        self.assertGreater(len(found), 20)

    def test_sums(self):
        # A sum from M - 1 on, plus most for each symbol.
        for modulus, most, bits in itertools.product((2, 10, 255, GREAT), (1, 2, 255, GREAT), (1, 2, 8, 16, 59, 60, 64, 128)):
            if modulus <= 2 ** bits:
                self.assertEqual(late(plain(modulus), most, bits), (2 ** bits - modulus) // most)
        self.assertEqual(late(plain(2), 1, 128), 2 ** 128 - 2)
        wide = Guard(10, [[1]], [[3] * 16], [0], [0])
        self.assertEqual(late(wide, 5, 100), (2 ** 100 - 10) // 240)

    def test_sums_of_sums(self):
        # The second number: (M - 1) (n + 1) + most n (n + 1) / 2.
        for modulus, most, bits in ((65521, 255, 32), (65521, 65535, 32), (255, 255, 16), (2, 1, 128), (GREAT, 1, 128), (10, 9, 4)):
            told = late(pair(modulus), most, bits)
            second = [(modulus - 1) * (many + 1) + most * many * (many + 1) // 2 for many in (told, told + 1)]
            self.assertTrue(second[0] <= 2 ** bits - 1 < second[1])

    def test_powers(self):
        # A digit more for each symbol.
        self.assertEqual([late(digits(97, 10), 9, bits) for bits in (7, 8, 10, 64)], [0, 0, 1, 17])
        self.assertEqual(late(digits(97, 96), 0, 128), 18)
        self.assertEqual(late(remainder(8, 7), 1, 64), step_by_step(remainder(8, 7), 1, 64, 10 ** 4))
        self.assertEqual(late(packed(remainder(8, 7), 8), 1, 64), step_by_step(packed(remainder(8, 7), 8), 1, 64, 10 ** 4))

    def test_no_greatest(self):
        turn = Guard(5, [[0, 1], [1, 0]], [[1], [1]], [1, 2], [3, 4])
        self.assertEqual([late(turn, most, bits) for most, bits in ((0, 3), (0, 128), (1, 3), (2, 5))], [None, None, 3, 13])
        still = Guard(5, identity(3), [[0], [0], [0]], [0, 0, 0], [0, 0, 0])
        self.assertEqual([late(still, most, 3) for most in (0, 1, GREAT)], [None, None, None])
        one = Guard(2, identity(2), [[0, 0], [0, 1]], [0, 0], [0, 0])
        self.assertEqual([late(one, 0, 1), late(one, 1, 1), late(one, 1, 2), late(one, 3, 3)], [None, 0, 2, 2])
        for most, bits in ((1, 128), (GREAT, 1)):
            self.assertIs(type(late(plain(2), most, bits)), int)

    def test_as_late_as_can_be(self):
        # A row of sums that only the last number feeds, round by round.
        size = 16
        turn = [[int(at == (row + 1) % size) for at in range(size)] for row in range(size)]
        guard = Guard(2, turn, [[0]] * (size - 1) + [[1]], [0] * size, [0] * size)
        # Each number grows by 1 in each round of sixteen symbols: the first one that was fed is over first.
        self.assertEqual(late(guard, 1, 3), step_by_step(guard, 1, 3, 1000))
        self.assertEqual(late(guard, 1, 128) - (2 ** 128 - 2 ** 3) * size, late(guard, 1, 3))
        self.assertEqual(late(guard, 1, 1), 0)

    def test_start_and_end_do_not_matter(self):
        self.assertEqual(late(pair(65521), 255, 32), late(pair(65521, 65520), 255, 32))
        self.assertEqual(late(Guard(10, [[3]], [[1]], [9], [9]), 9, 20), late(Guard(10, [[3]], [[1]], [0], [0]), 9, 20))
        self.assertNotEqual(late(behind_zeros(pair(255), 3), 255, 32), late(pair(255), 255, 32))

    def test_sizes(self):
        for value in no_integers() + [-1, GREAT + 1, 10 ** 40 - 1]:
            self.raises(BadSize, {"size": value}, late, plain(10), value, None)
        for value in no_integers() + [0, -1, 129, GREAT]:
            self.raises(BadSize, {"size": value}, late, plain(10), 0, value)
            self.raises(BadSize, {"size": value}, late, plain(GREAT), GREAT, value)
        self.assertEqual(late(plain(10), GREAT, 128), (2 ** 128 - 10) // GREAT)

    def test_modulus(self):
        for modulus, bits in ((3, 1), (10, 3), (257, 8), (GREAT, 59), (65537, 16)):
            self.raises(BadModulus, {"number": modulus}, late, plain(modulus), 0, bits)
            self.raises(BadModulus, {"number": modulus}, late, plain(modulus), GREAT, bits)
            self.assertEqual(late(plain(modulus), GREAT, bits + 1), max(0, (2 ** (bits + 1) - modulus) // GREAT))
        for bits in (1, 8, 16, 59):
            self.assertEqual(late(plain(2 ** bits), 1, bits), 0)
            self.assertIsNone(late(plain(2 ** bits), 0, bits))


if __name__ == "__main__":
    unittest.main()
