"""Point 9: guards."""

import time
import unittest
from unittest import mock

from guardsums import guards
from guardsums.errors import (BadColumns, BadEnd, BadMatrix, BadModulus, BadStart, BadState, BadSymbol, NotUndone,
                              TooMany)
from guardsums.guards import Guard
from guardsums.makers import digits, pair
from guardsums.matrices import identity
from tests.support import any_values, chance, random_block, random_matrix, random_undoable, state_behind, told

TURN = [[0, 0, 1], [1, 0, 1], [0, 1, 0]]
NO_NUMBERS = [value for value in any_values() if value is not False and value != 0] + [False, -1, 10, 1.0, b"1"]


def good():
    """New arguments of a guard modulo 10 of two numbers, its symbols of three."""
    return [10, [[1, 2], [0, 3]], [[1, 0, 2], [5, 9, 4]], [7, 8], [0, 9]]


class Guards(unittest.TestCase):
    def raises(self, error, fields, call, *arguments):
        with self.assertRaises(error) as caught:
            call(*arguments)
        self.assertEqual(vars(caught.exception), fields)


class Making(Guards):
    def test_interface(self):
        self.assertEqual(Guard.__module__, "guardsums.guards")
        self.assertIs(guards.Guard, Guard)
        for name in ("told", "behind", "__eq__", "__init__"):
            self.assertIn(name, vars(Guard))

    def test_attributes(self):
        guard = Guard(*good())
        self.assertEqual([guard.modulus, guard.matrix, guard.columns, guard.start, guard.end, guard.size, guard.width],
                         [10, ((1, 2), (0, 3)), ((1, 0, 2), (5, 9, 4)), (7, 8), (0, 9), 2, 3])
        for row in (guard.matrix, *guard.matrix, guard.columns, *guard.columns, guard.start, guard.end):
            self.assertIs(type(row), tuple)

    def test_tuples_as_well(self):
        one = Guard(*good())
        other = Guard(10, ((1, 2), [0, 3]), ((1, 0, 2), (5, 9, 4)), (7, 8), (0, 9))
        self.assertTrue(one == other)

    def test_lists_changed_afterwards(self):
        arguments = good()
        guard = Guard(*arguments)
        self.assertEqual(arguments, good())
        for rows in arguments[1:3]:
            rows[0][0] = 9
            rows.append([1, 1])
        arguments[3][0], arguments[4][0] = 1, 1
        self.assertTrue(guard == Guard(*good()))

    def test_greatest_and_least(self):
        self.assertEqual(Guard(2, [[1]], [[0]], [1], [0]).size, 1)
        modulus = 10 ** 18
        guard = Guard(modulus, identity(16), [[modulus - 1] * 16] * 16, [modulus - 1] * 16, [0] * 16)
        self.assertEqual([guard.size, guard.width], [16, 16])
        self.assertEqual(guard.told([(modulus - 1,) * 16]), (15,) * 16)

    def test_equal(self):
        self.assertTrue(Guard(*good()) == Guard(*good()))
        self.assertFalse(Guard(*good()) != Guard(*good()))
        for at, other in ((0, 11), (1, [[1, 2], [0, 7]]), (2, [[1, 0, 2], [5, 9, 3]]), (2, [[1, 0], [5, 9]]),
                          (3, [7, 9]), (4, [0, 8])):
            arguments = good()
            arguments[at] = other
            self.assertFalse(Guard(*good()) == Guard(*arguments))
            self.assertTrue(Guard(*good()) != Guard(*arguments))

    def test_equal_to_guards_alone(self):
        for value in any_values() + [mock.ANY, tuple(good()), good()]:
            self.assertFalse(Guard(*good()) == value)


class Wrong(Guards):
    def test_modulus(self):
        for value in any_values() + [1, 0, -2, 10 ** 18 + 1, 10 ** 40 - 1, 2.0, b"2"]:
            # Nothing else is looked at ahead of it.
            for rest in (good()[1:], [[], [], [], []], [[None], [None], [None], [None]]):
                with self.assertRaises(BadModulus) as caught:
                    Guard(value, *rest)
                self.assertIs(caught.exception.number, value)

    def test_how_many_rows(self):
        for many in (0, 17, 18, 100):
            for matrix in ([[1] * many] * many, [None] * many, tuple([[]] * many)):
                self.raises(TooMany, {"what": "numbers", "many": many, "most": 16}, Guard, 10, matrix, [], [None], [None])

    def test_matrix(self):
        for index in range(3):
            for value in any_values() + [[0, 0], [0] * 4, (1, 0), [0, 0, 10], [0, -1, 0], [True, 0, 0], [0, None, 0],
                                         [[0], 0, 0], "000", {0: 0, 1: 1, 2: 2}]:
                matrix = [list(row) for row in identity(3)]
                matrix[index] = value
                self.raises(BadMatrix, {"index": index}, Guard, 10, matrix, [], [None], [None])
        self.raises(BadMatrix, {"index": 1}, Guard, 10, [[1, 0, 0], [0], None], [], [], [])

    def test_not_undone(self):
        for matrix in ([[2]], [[5]], [[0]], [[1, 1], [1, 1]], [[2, 0], [0, 5]], [[3, 1], [1, 7]]):
            self.raises(NotUndone, {}, Guard, 10, matrix, [], [None], [None])
        self.assertEqual(Guard(9, [[2]], [[0]], [0], [0]).size, 1)

    def test_columns(self):
        for index in range(3):
            for value in any_values() + [[], [0], [0] * 3, [0, 10], [-1, 0], [True, 0], [0, None], "00", {0: 0, 1: 1}]:
                if index == 0 and isinstance(value, list) and value in ([0], [0] * 3):
                    continue
                columns = [[0, 1] for _ in range(3)]
                columns[index] = value
                self.raises(BadColumns, {"index": index}, Guard, 10, identity(3), columns, [None], [None])

    def test_columns_first_row_tells_the_width(self):
        for first, index in (([0], 1), ([0] * 3, 1), ([], 0), ([0] * 17, 0), ([None] * 17, 0), ([0] * 16, 1)):
            self.raises(BadColumns, {"index": index}, Guard, 10, identity(3), [first, [0, 1], [0, 1]], [None], [None])

    def test_how_many_columns(self):
        for many in (0, 1, 2, 4, 17, 30):
            self.raises(BadColumns, {"index": many}, Guard, 10, identity(3), [[0, 1]] * many, [None], [None])
        self.raises(BadColumns, {"index": 4}, Guard, 10, identity(3), [[0, 1]] * 4 + [[0]], [None], [None])

    def test_start_and_end(self):
        for at, error in ((3, BadStart), (4, BadEnd)):
            for index in range(2):
                for value in NO_NUMBERS:
                    arguments = good()
                    arguments[at][index] = value
                    self.raises(error, {"index": index}, Guard, *arguments)
            for numbers, index in (([], 0), ([1], 1), ([1, 2, 3], 3), ([0] * 40, 40), ([0, 0, None], 2), ((0, 10, 0), 1)):
                arguments = good()
                arguments[at] = numbers
                self.raises(error, {"index": index}, Guard, *arguments)
            if at == 3:
                arguments = good()
                arguments[3:] = [[1], [None, None]]
                self.raises(BadStart, {"index": 1}, Guard, *arguments)


class Telling(Guards):
    def test_document(self):
        guard = Guard(10, [[3]], [[1, 7]], [2], [5])
        self.assertEqual([guard.size, guard.width, guard.told([]), guard.told([(1, 1)]),
                          guard.behind([(1, 1), (0, 2)], (2,))], [1, 2, (7,), (9,), (6,)])

    def test_by_hand(self):
        guard = Guard(2, TURN, [[1], [0], [0]], [0, 0, 1], [1, 0, 0])
        self.assertEqual([guard.told([]), guard.told([(0,)]), guard.told([(1,), (0,)])],
                         [(1, 0, 1), (0, 1, 0), (1, 0, 1)])

    def test_against_the_words(self):
        source = chance(1)
        for modulus in (2, 3, 6, 255, 10 ** 18):
            for size, width in ((1, 1), (2, 1), (3, 2), (5, 4), (16, 16)):
                guard = Guard(modulus, random_undoable(source, modulus, size),
                              random_matrix(source, modulus, size, width), random_matrix(source, modulus, 1, size)[0],
                              random_matrix(source, modulus, 1, size)[0])
                for many in (0, 1, 2, 7):
                    block = random_block(source, modulus, width, many)
                    state = random_matrix(source, modulus, 1, size)[0]
                    self.assertEqual(guard.told(block), told(guard, block))
                    self.assertEqual(guard.behind(block, state), state_behind(guard, block, state))
                    self.assertEqual(guard.told(tuple(block)), guard.told(block))

    def test_empty_block(self):
        guard = Guard(*good())
        self.assertEqual([guard.told([]), guard.told(()), guard.behind([], (4, 5))], [(7, 7), (7, 7), (4, 5)])

    def test_most_symbols(self):
        guard = Guard(10, [[1]], [[1]], [0], [0])
        self.assertEqual(guard.told([(1,)] * 10000), (0,))
        self.assertEqual(guard.behind([(1,)] * 9999, (5,)), (4,))
        for many in (10001, 20000):
            for call in (lambda: guard.told([(1,)] * many), lambda: guard.behind([(1,)] * many, (0,))):
                self.raises(TooMany, {"what": "symbols", "many": many, "most": 10000}, call)
        self.raises(BadSymbol, {"index": 10000}, guard.told, [(1,)] * 10000 + [(10,)])

    def test_symbols(self):
        guard = Guard(*good())
        wrong = any_values() + [[1, 2, 3], (1, 2), (1, 2, 3, 4), (1, 2, 10), (1, -1, 0), (True, 0, 0), (None, 0, 0), 1]
        for index in (0, 2):
            for value in wrong:
                block = [(1, 2, 3)] * 4
                block[index] = value
                self.raises(BadSymbol, {"index": index}, guard.told, block)
                self.raises(BadSymbol, {"index": index}, guard.behind, block, (0, 0))
        self.raises(BadSymbol, {"index": 1}, guard.told, [(1, 2, 3), (1,), None])

    def test_state(self):
        guard = Guard(*good())
        for value in any_values() + [[1, 2], 5]:
            if not isinstance(value, tuple):
                self.raises(BadState, {"index": 0}, guard.behind, [None], value)
        for value, index in (((), 0), ((1,), 1), ((1, 2, 3), 3), ((1, 2, None), 2), ((1, 10), 1), ((-1, 0), 0),
                             ((True, 0), 0), ((0, False), 1), ((0, "1"), 1), (((0,), 0), 0), ((0,) * 20, 20)):
            # The state is looked at ahead of the block.
            self.raises(BadState, {"index": index}, guard.behind, [None], value)
            self.raises(BadState, {"index": index}, guard.behind, [(1, 2, 3)] * 10001, value)

    def test_arguments_are_as_before(self):
        guard, block = Guard(*good()), [(1, 2, 3), (4, 5, 6)]
        first = guard.told(block)
        self.assertEqual((guard.told(block), block), (first, [(1, 2, 3), (4, 5, 6)]))
        self.assertTrue(guard == Guard(*good()))


class Long(Guards):
    """Lists of up to 10,000 symbols, and those that are refused."""

    def guards(self):
        """A guard that sums up, and one of three numbers with symbols of three numbers."""
        return [(pair(10, 3), (1,)), (Guard(12, [[1, 2, 0], [0, 5, 3], [0, 0, 7]], [[1, 0, 2], [0, 1, 0], [3, 0, 1]],
                                            [1, 2, 3], [4, 5, 6]), (1, 2, 3))]

    def test_all_lengths(self):
        # Groups of symbols, and what is left of them ahead.
        source = chance(2)
        for modulus, size, width in ((10, 2, 1), (12, 3, 3), (2, 16, 1), (10 ** 18, 1, 2), (7, 1, 1)):
            guard = Guard(modulus, random_undoable(source, modulus, size), random_matrix(source, modulus, size, width),
                          random_matrix(source, modulus, 1, size)[0], random_matrix(source, modulus, 1, size)[0])
            block = random_block(source, modulus, width, 700)
            state = guard.start
            for many, symbol in enumerate(block):
                self.assertEqual(guard.behind(block[:many], guard.start), state)
                state = state_behind(guard, [symbol], state)

    def test_against_short_lists(self):
        source = chance(3)
        for guard, same in self.guards():
            for block in (random_block(source, guard.modulus, guard.width, 10000), [same] * 10000):
                for size in (1, 31, 100, 1000):
                    state = guard.start
                    for at in range(0, 10000, size):
                        state = guard.behind(block[at:at + size], state)
                    wanted = tuple((a + b) % guard.modulus for a, b in zip(state, guard.end))
                    self.assertEqual(guard.told(block), wanted)
                    self.assertEqual(guard.told(tuple(block)), wanted)
                    self.assertEqual(guard.behind(block, guard.start), state)
                self.assertEqual(guard.told(block[:9999]), told(guard, block[:9999]))

    def test_by_hand(self):
        # 3 and 10,000 ones; their sums: 3 * 10,000 + 10,000 * 10,001 / 2.
        self.assertEqual(pair(65521, 3).told([(1,)] * 10000), (10003, (3 * 10000 + 10000 * 10001 // 2) % 65521))
        self.assertEqual(pair(10).told([(1,)] * 10000), (0, 0))
        self.assertEqual(digits(97, 10).told([(9,)] * 10000), ((pow(10, 10000, 97) - 1) % 97,))

    def test_greatest_numbers(self):
        modulus = 10 ** 18
        guard = Guard(modulus, identity(16), [[modulus - 1] * 16] * 16, [modulus - 1] * 16, [0] * 16)
        self.assertEqual(guard.told([(modulus - 1,) * 16] * 2000), ((16 * 2000 - 1) % modulus,) * 16)

    def test_errors(self):
        for guard, same in self.guards():
            width = guard.width
            wrong = any_values() + [(1,) * (width + 1), (1,) * (width - 1), list(same), (guard.modulus,) * width, (-1,) * width,
                                    same[:-1] + (guard.modulus,), same[:-1] + (True,), (False,) + same[1:], (None,) * width]
            for many in (10000, 10001):
                for index in (0, many // 2, many - 1):
                    for value in wrong:
                        block = [same] * many
                        block[index] = value
                        self.raises(BadSymbol, {"index": index}, guard.told, block)
                    # The first one counts, whatever stands behind it.
                    block[many - 1] = None
                    self.raises(BadSymbol, {"index": index}, guard.behind, block, guard.start)
            for many in (10001, 10002, 20000):
                fields = {"what": "symbols", "many": many, "most": 10000}
                self.raises(TooMany, fields, guard.told, [same] * many)
                self.raises(TooMany, fields, guard.behind, [same] * many, guard.start)
                self.raises(BadState, {"index": 0}, guard.behind, [same] * many, (guard.modulus,) * guard.size)
                self.raises(BadState, {"index": 0}, guard.behind, [None] * many, list(guard.start))

    def test_many_calls_in_good_time(self):
        blocks = [(guard, [same] * 10000, [same] * 10001) for guard, same in self.guards()]
        ahead = time.process_time()
        for _ in range(50):
            for guard, let, refused in blocks:
                guard.told(let)
                guard.behind(let, guard.start)
                with self.assertRaises(TooMany):
                    guard.told(refused)
        # About 0.8 seconds on the machine on which this was written, 3 where each symbol is reckoned by itself.
        self.assertLess(time.process_time() - ahead, 3)


if __name__ == "__main__":
    unittest.main()
