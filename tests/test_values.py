"""Point 2: what an integer is, what a list is, and how results keep their fields."""

import unittest

from guardsums.ratios import Ratio
from guardsums.values import (frozen, is_integer, is_list, is_matrix, is_row, is_same_matrix, is_symbol, is_within,
                              wrong_number, wrong_row, wrong_symbol)
from tests.support import any_values


class IsInteger(unittest.TestCase):
    def test_integers(self):
        for value in (0, 1, -1, 2, 10 ** 40 - 1, -(10 ** 40 - 1)):
            self.assertIs(is_integer(value), True)

    def test_other_values(self):
        for value in (True, False, None, "1", "", (), (1,), [], [1], {}, {1: 1}, Ratio(1), b"1", 1.0):
            self.assertIs(is_integer(value), False)

    def test_within(self):
        self.assertEqual([is_within(value, 0, 3) for value in (-1, 0, 3, 4, True, None, "2")],
                         [False, True, True, False, False, False, False])


class Lists(unittest.TestCase):
    def test_lists(self):
        self.assertEqual([is_list(value) for value in ([], (), [1], "ab", {}, None, 3)],
                         [True, True, True, False, False, False, False])

    def test_numbers(self):
        for numbers, wanted in (([], 0), ([1, 2], None), ((1, 2), None), ([1], 1), ([1, 2, 3], 3), ([1, 5], 1),
                                ([-1, 9], 0), ([1, 2, None], 2), ([True, 1], 0)):
            self.assertEqual(wrong_number(numbers, 2, 5), wanted)

    def test_rows(self):
        for rows, wanted in (([[1], (2,)], None), ([], 0), ([[1]], 1), ([[1], [1], [1]], 3), ([[1], [5]], 1),
                             ([[1], None], 1), ([[1, 1], [1]], 0), ([[1], [1], [7]], 2), (["1", [1]], 0)):
            self.assertEqual(wrong_row(rows, 2, 1, 5), wanted)

    def test_symbols(self):
        for value in any_values() + [[1, 2], (1,), (1, 2, 3), (1, 5), (-1, 0), (True, 0)]:
            self.assertIs(is_symbol(value, 2, 5), False)
        self.assertIs(is_symbol((0, 4), 2, 5), True)

    def test_blocks(self):
        for value in any_values() + [[1, 2], (1,), (1, 2, 3), (1, 5), (-1, 0), (True, 0), (0, False), (None, 0), (0, (1,))]:
            for index in range(3):
                block = [(0, 4), (1, 2), (3, 3)]
                block[index] = value
                self.assertEqual(wrong_symbol(block, 2, 5), index)
                self.assertEqual(wrong_symbol(tuple(block) + (None,), 2, 5), index)
        self.assertIsNone(wrong_symbol([(0, 4), (1, 2), (3, 3)], 2, 5))
        self.assertIsNone(wrong_symbol([], 2, 5))

    def test_rows_and_matrices_of_integers(self):
        self.assertEqual([is_row(value, 2) for value in ((1, -9), [1, 2], (1,), (1, True), (1, None), None)],
                         [True, False, False, False, False, False])
        self.assertEqual([is_matrix(value, 2, 1) for value in (((1,), (2,)), ((1,),), ((1,), [2]), ((1,), (2, 3)), None)],
                         [True, False, False, False, False])
        self.assertIs(is_matrix((), 0, 5), True)
        self.assertEqual([is_same_matrix(value, ((1,), (0,)), 1) for value in (((1,), (0,)), ((1,), (False,)), ((1,),),
                                                                              ((1,), (2,)), [(1,), (0,)])],
                         [True, False, False, False, False])


class Frozen(unittest.TestCase):
    def test_lists_at_every_depth(self):
        self.assertEqual(frozen([1, [2, (3, [4])], {"A": [[5]]}]), (1, (2, (3, (4,))), {"A": ((5,),)}))
        deep, wanted = [], ()
        for _ in range(10):
            deep, wanted = [deep], (wanted,)
        self.assertEqual(frozen(deep), wanted)

    def test_all_else_as_it_is(self):
        for value in any_values():
            if not isinstance(value, (list, tuple, dict)):
                self.assertIs(frozen(value), value)

    def test_a_copy(self):
        rows = [[1], {"A": [2]}]
        kept = frozen(rows)
        rows[0].append(3)
        rows[1]["A"] = 4
        self.assertEqual(kept, ((1,), {"A": (2,)}))


if __name__ == "__main__":
    unittest.main()
