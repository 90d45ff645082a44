"""Point 8: spans, howell forms, solutions, kernels."""

import itertools
import unittest

from guardsums import howell as module
from guardsums.howell import (Faithful, Lost, NoWay, Ways, combination, count_ways, howell, is_faithful, is_lost,
                              is_no_way, is_ways, judge_kernel, solutions, span_size)
from tests.support import any_values, chance, dot, random_matrix, rows_of, span, times

GREAT = (255, 65536, 720720, 10 ** 12 - 11, 10 ** 18, 10 ** 40 - 17, 6 ** 40)
SMALL = (2, 3, 4, 5, 6, 8, 9, 12)


def applied(modulus, matrix, row):
    return tuple(dot(modulus, line, row) for line in matrix)


class Interface(unittest.TestCase):
    def test_names(self):
        for name in ("howell", "span_size", "combination", "solutions", "count_ways", "is_ways", "is_no_way",
                     "judge_kernel", "is_faithful", "is_lost", "Ways", "NoWay", "Faithful", "Lost"):
            self.assertEqual(getattr(module, name).__module__, "guardsums.howell")

    def test_document(self):
        self.assertEqual([howell(4, [(2, 1), (0, 2)], 2), howell(6, [(3, 1)], 2), span_size(6, [(3, 1)], 2),
                          howell(5, [], 2)], [((2, 1), (0, 2)), ((3, 1), (0, 2)), 6, ()])
        ways, no_way = solutions(6, ((2, 3),), (1,)), solutions(4, ((2,),), (1,))
        self.assertEqual([count_ways(6, ((2, 3),), (1,)), ways.kernel, no_way.left], [6, ((3, 0), (0, 2)), (2,)])
        self.assertEqual([type(judge_kernel(6, ((2,), (3,)))), judge_kernel(4, ((2,),)).row], [Faithful, (2,)])


class Form(unittest.TestCase):
    def check_form(self, modulus, form, width):
        """Whether the rows are of the form that the document tells, all but that they span the same."""
        self.assertIs(type(form), tuple)
        places = []
        for row in form:
            self.assertIs(type(row), tuple)
            self.assertEqual(len(row), width)
            self.assertTrue(all(type(number) is int and 0 <= number < modulus for number in row))
            places.append(next(at for at in range(width) if row[at] != 0))
        self.assertEqual(places, sorted(set(places)))
        for at, place in enumerate(places):
            self.assertEqual(modulus % form[at][place], 0)
            self.assertTrue(all(ahead[place] < form[at][place] for ahead in form[:at]))
        return places

    def check(self, modulus, rows, width):
        form = howell(modulus, rows, width)
        places = self.check_form(modulus, form, width)
        spanned = span(modulus, rows, width)
        self.assertEqual(span(modulus, form, width), spanned)
        for index in range(width):
            lower = [row for row, place in zip(form, places) if place >= index]
            wanted = {row for row in spanned if not any(row[:index])}
            self.assertEqual(span(modulus, lower, width), wanted, (modulus, rows, index))
        self.assertEqual(span_size(modulus, rows, width), len(spanned))

    def test_all_single_rows(self):
        for modulus in SMALL:
            for row in rows_of(modulus, 2):
                self.check(modulus, [row], 2)

    def test_all_pairs_of_rows(self):
        for modulus in (2, 3, 4, 6):
            for one, other in itertools.product(rows_of(modulus, 2), repeat=2):
                self.check(modulus, [one, other], 2)

    def test_one_number(self):
        for modulus in (2, 4, 6, 12, 30):
            for numbers in itertools.product(range(modulus), repeat=2):
                self.check(modulus, [(number,) for number in numbers], 1)

    def test_random_rows(self):
        source = chance(1)
        for modulus in SMALL:
            for width in (3, 4):
                if modulus ** width <= 2500:
                    for many in range(5):
                        for _ in range(4):
                            self.check(modulus, list(random_matrix(source, modulus, many, width)), width)

    def test_no_rows(self):
        for width in (1, 3, 16):
            self.assertEqual([howell(12, [], width), span_size(12, [], width), howell(12, (), width)], [(), 1, ()])

    def test_rows_of_zeros(self):
        self.assertEqual(howell(6, [(0, 0), (6, -12)], 2), ())
        self.assertEqual(span_size(6, [(0, 0), (6, -12)], 2), 1)

    def test_same_span_same_form(self):
        source = chance(2)
        for modulus in SMALL + GREAT:
            for width in (1, 2, 5, 9):
                rows = list(random_matrix(source, modulus, width - width // 3, width))
                form = howell(modulus, rows, width)
                self.check_form(modulus, form, width)
                mixed = rows[::-1] + [tuple(a + 3 * b for a, b in zip(rows[0], rows[-1]))]
                mixed = [tuple(number - modulus * source.randrange(-9, 9) for number in row) for row in mixed]
                self.assertEqual(howell(modulus, mixed, width), form)
                self.assertEqual(howell(modulus, tuple(form), width), form)
                self.assertEqual(howell(modulus, list(form) + rows, width), form)
                self.assertEqual(span_size(modulus, form, width), span_size(modulus, rows, width))

    def test_divisors_of_great_moduli(self):
        # With 2 ** 17 * 5 ** 17 as a pivot another row, 10 times this one, must stand below it.
        self.assertEqual(howell(10 ** 18, [(10 ** 17, 1)], 2), ((10 ** 17, 1), (0, 10)))
        self.assertEqual(howell(10 ** 18, [(3 * 10 ** 17, 3)], 2), ((10 ** 17, 1), (0, 10)))
        self.assertEqual(span_size(10 ** 18, [(10 ** 17, 1)], 2), 10 ** 18)
        self.assertEqual(howell(6 ** 40, [(2 ** 40, 1), (3 ** 40, 0)], 2)[0][0], 1)

    def test_lists_are_as_before(self):
        rows = [(3, 1), (9, -2)]
        form = howell(6, rows, 2)
        self.assertEqual(rows, [(3, 1), (9, -2)])
        rows[0] = (1, 1)
        self.assertEqual(form, howell(6, [(3, 1), (9, -2)], 2))


class Combination(unittest.TestCase):
    def test_all_small(self):
        source = chance(3)
        for modulus in (2, 3, 4, 6, 8):
            for many in (1, 2, 3):
                for _ in range(4):
                    rows = list(random_matrix(source, modulus, many, 2))
                    spanned = span(modulus, rows, 2)
                    for row in rows_of(modulus, 2):
                        self.check(modulus, rows, row, row in spanned)

    def check(self, modulus, rows, row, wanted):
        told = combination(modulus, rows, row)
        self.assertEqual(told is not None, wanted)
        if wanted:
            self.assertIs(type(told), tuple)
            self.assertEqual(len(told), len(rows))
            self.assertTrue(all(type(number) is int and 0 <= number < modulus for number in told))
            self.assertEqual(applied(modulus, list(zip(*rows)), told), tuple(number % modulus for number in row))

    def test_great(self):
        source = chance(4)
        for modulus in GREAT:
            for many, width in ((1, 1), (3, 5), (6, 4), (16, 16)):
                rows = random_matrix(source, modulus, many, width)
                row = applied(modulus, list(zip(*rows)), random_matrix(source, modulus, 1, many)[0])
                self.check(modulus, list(rows), tuple(number + modulus for number in row), True)
                self.check(modulus, list(rows), tuple(-number * 7 for number in row), True)

    def test_none(self):
        self.assertIsNone(combination(6, [(2, 0), (4, 0)], (1, 0)))
        self.assertIsNone(combination(10 ** 18, [(2, 0), (0, 1)], (1, 0)))
        self.assertEqual(combination(6, [(2, 0), (3, 0)], (0, 0)), (0, 0))
        self.assertIsNone(combination(5, [(0, 0)], (0, 1)))
        self.assertEqual(combination(5, [(0, 0)], (0, 10)), (0,))


class Solutions(unittest.TestCase):
    def check(self, modulus, matrix, wish):
        height, width = len(matrix), len(matrix[0])
        less = tuple(number % modulus for number in wish)
        wanted = [row for row in rows_of(modulus, width) if applied(modulus, matrix, row) == less]
        told = solutions(modulus, matrix, wish)
        self.assertEqual(count_ways(modulus, matrix, wish), len(wanted))
        self.assertEqual((told.modulus, told.matrix, told.wish), (modulus, matrix, wish))
        if wanted:
            self.assertIs(type(told), Ways)
            self.assertIn(told.one, wanted)
            kernel = [row for row in rows_of(modulus, width) if not any(applied(modulus, matrix, row))]
            self.assertEqual(told.kernel, howell(modulus, kernel, width))
            self.assertIs(is_ways(told), True)
        else:
            self.assertIs(type(told), NoWay)
            self.assertEqual(len(told.left), height)
            self.assertFalse(any(dot(modulus, told.left, column) for column in zip(*matrix)))
            self.assertTrue(dot(modulus, told.left, wish))
            self.assertIs(is_no_way(told), True)

    def test_all_of_one_row(self):
        for modulus in (2, 3, 4, 6):
            for row in rows_of(modulus, 2):
                for wish in range(-1, modulus + 1):
                    self.check(modulus, (row,), (wish,))
                    self.check(modulus, ((row[0],), (row[1],)), (wish, wish * wish))

    def test_random(self):
        source = chance(5)
        for modulus in SMALL:
            for height, width in ((1, 1), (2, 2), (3, 2), (2, 3), (4, 1), (3, 3)):
                if modulus ** width <= 800:
                    for _ in range(8):
                        matrix = random_matrix(source, modulus, height, width)
                        matrix = tuple(tuple(number * source.choice([1, 1, 2, 3]) for number in row) for row in matrix)
                        self.check(modulus, matrix, random_matrix(source, 3 * modulus, 1, height)[0])

    def test_matrix_of_zeros(self):
        self.check(4, ((0, 0), (4, -8)), (0, 0))
        self.check(4, ((0, 0), (4, -8)), (4, 2))
        self.check(4, ((0, 0), (4, -8)), (0, 2))

    def test_great(self):
        source = chance(6)
        for modulus in GREAT:
            for height, width in ((3, 5), (5, 3), (16, 40), (8, 8)):
                matrix = random_matrix(source, modulus, height, width)
                wish = applied(modulus, matrix, random_matrix(source, modulus, 1, width)[0])
                ways = solutions(modulus, matrix, wish)
                self.assertEqual(applied(modulus, matrix, ways.one), wish)
                for row in ways.kernel:
                    self.assertFalse(any(applied(modulus, matrix, row)))
                self.assertEqual(howell(modulus, ways.kernel, width), ways.kernel)
                # What is taken to 0 and what is taken to something else make up all rows.
                taken = span_size(modulus, list(zip(*matrix)), height)
                self.assertEqual(taken * span_size(modulus, ways.kernel, width), modulus ** width)
                self.assertEqual(count_ways(modulus, matrix, wish), modulus ** width // taken)
                self.assertTrue(is_ways(ways))

    def test_great_without_solution(self):
        for modulus in (255, 720720, 10 ** 18):
            prime = {255: 17, 720720: 13, 10 ** 18: 5}[modulus]
            source = chance(7)
            matrix = tuple(tuple(prime * number for number in row) for row in random_matrix(source, modulus, 4, 6))
            matrix = matrix + ((1, 2, 3, 4, 5, 6),)
            no_way = solutions(modulus, matrix, (prime, prime, 1, 0, 1))
            self.assertIs(type(no_way), NoWay)
            self.assertTrue(is_no_way(no_way))
            self.assertEqual(count_ways(modulus, matrix, (prime, prime, 1, 0, 1)), 0)

    def test_kept_as_passed(self):
        for wish in ((7, -1), (1, 0)):
            told = solutions(6, ((8, -3), (6, 6)), wish)
            self.assertEqual((told.matrix, told.wish), (((8, -3), (6, 6)), wish))


class Judging(unittest.TestCase):
    def setUp(self):
        self.ways = solutions(6, ((2, 3),), (1,))
        self.no_way = solutions(4, ((2,), (0,)), (1, 2))
        self.faithful = judge_kernel(6, ((2,), (3,)))
        self.lost = judge_kernel(12, ((2, 3),))

    def test_any_solution(self):
        for one in rows_of(6, 2):
            wanted = (2 * one[0] + 3 * one[1]) % 6 == 1
            self.assertIs(is_ways(Ways(6, ((2, 3),), (1,), one, self.ways.kernel)), wanted)
            shifted = (one[0] - 6, one[1] + 600)
            self.assertIs(is_ways(Ways(6, ((2, 3),), (1,), shifted, self.ways.kernel)), wanted)

    def test_kernel_is_the_form_itself(self):
        one = self.ways.one
        for kernel in ((), ((3, 0),), ((0, 2), (3, 0)), ((3, 2), (0, 2)), ((3, 0), (0, 4)), ((3, 0), (0, 2), (0, 0)),
                       ((9, 0), (0, 2)), ((3, 0), (0, -4)), ((3, False), (0, 2)), ((3,), (0, 2)), ((3, 0, 0), (0, 2))):
            self.assertIs(is_ways(Ways(6, ((2, 3),), (1,), one, kernel)), False, kernel)
        self.assertIs(is_ways(Ways(6, [[2, 3]], [1], list(one), [[3, 0], [0, 2]])), True)

    def test_one_number_otherwise(self):
        for at in range(2):
            one = list(self.ways.one)
            one[at] += 1
            self.assertIs(is_ways(Ways(6, ((2, 3),), (1,), one, self.ways.kernel)), False)
        self.assertIs(is_ways(Ways(6, ((2, 3),), (2,), self.ways.one, self.ways.kernel)), False)
        self.assertIs(is_ways(Ways(6, ((2, 5),), (1,), self.ways.one, self.ways.kernel)), False)

    def test_no_way_out_of_a_solution(self):
        self.assertIs(is_ways(Ways(4, ((2,),), (1,), (1,), ((2,),))), False)
        self.assertIs(is_no_way(NoWay(6, ((2, 3),), (1,), (1,))), False)

    def test_any_left(self):
        for left in rows_of(4, 2):
            wanted = 2 * left[0] % 4 == 0 and (left[0] + 2 * left[1]) % 4 != 0
            self.assertIs(is_no_way(NoWay(4, ((2,), (0,)), (1, 2), left)), wanted)
            shifted = (left[0] + 400, left[1] - 4)
            self.assertIs(is_no_way(NoWay(4, ((2,), (0,)), (1, 2), shifted)), wanted)

    def test_any_back(self):
        for back in rows_of(6, 2):
            wanted = (2 * back[0] + 3 * back[1]) % 6 == 1
            self.assertIs(is_faithful(Faithful(6, ((2,), (3,)), (back,))), wanted)
            self.assertIs(is_faithful(Faithful(6, [[2], [3]], [[back[0] - 60, back[1] + 6]])), wanted)

    def test_any_row(self):
        for row in rows_of(12, 2):
            wanted = any(row) and (2 * row[0] + 3 * row[1]) % 12 == 0
            self.assertIs(is_lost(Lost(12, ((2, 3),), row)), bool(wanted))
            self.assertIs(is_lost(Lost(12, ((2, 3),), [row[0] + 12, row[1] - 120])), bool(wanted))
        self.assertIs(is_lost(Lost(12, ((2, 3),), (12, -24))), False)

    def test_other_values(self):
        wrong = [(0,) * 3, (True, False), ((0, 0),), (1, None), ("1", 1), ((),), ({},), (0, 1, 1)]
        for value in any_values() + wrong:
            self.assertIs(is_ways(Ways(6, ((2, 3),), (1,), value, self.ways.kernel)), False)
            self.assertIs(is_ways(Ways(6, ((2, 3),), (1,), self.ways.one, value)), False)
            self.assertIs(is_no_way(NoWay(4, ((2,), (0,)), (1, 2), value)), False)
            self.assertIs(is_faithful(Faithful(6, ((2,), (3,)), value)), False)
            self.assertIs(is_lost(Lost(12, ((2, 3),), value)), False)

    def test_bools_are_no_integers(self):
        self.assertIs(is_ways(Ways(2, ((1,),), (1,), (1,), ())), True)
        self.assertIs(is_ways(Ways(2, ((1,),), (1,), (True,), ())), False)
        self.assertIs(is_ways(Ways(2, ((0,),), (0,), (0,), ((1,),))), True)
        self.assertIs(is_ways(Ways(2, ((0,),), (0,), (0,), ((True,),))), False)
        self.assertIs(is_no_way(NoWay(2, ((0,),), (1,), (1,))), True)
        self.assertIs(is_no_way(NoWay(2, ((0,),), (1,), (True,))), False)
        self.assertIs(is_faithful(Faithful(2, ((1,),), ((1,),))), True)
        self.assertIs(is_faithful(Faithful(2, ((1,),), ((True,),))), False)
        self.assertIs(is_lost(Lost(2, ((0,),), (1,))), True)
        self.assertIs(is_lost(Lost(2, ((0,),), (True,))), False)

    def test_fields(self):
        for value in any_values() + [[[1, 2], [3]], ([4], {"A": [1]})]:
            ways = Ways(6, ((2, 3),), (1,), value, value)
            self.assertEqual(sorted(vars(ways)), ["kernel", "matrix", "modulus", "one", "wish"])
            if isinstance(value, (list, tuple)):
                self.assertIs(type(ways.one), tuple)
                self.assertEqual(len(ways.one), len(value))
            elif not isinstance(value, dict):
                self.assertIs(ways.one, value)
        self.assertEqual(Ways(6, [[2, [3]]], [1], [[1]], [{"A": [1]}]).matrix, ((2, (3,)),))
        self.assertEqual(sorted(vars(self.no_way)), ["left", "matrix", "modulus", "wish"])
        self.assertEqual(sorted(vars(self.faithful)), ["back", "matrix", "modulus"])
        self.assertEqual(sorted(vars(self.lost)), ["matrix", "modulus", "row"])

    def test_lists_changed_afterwards(self):
        one, kernel, row = [2, 1], [[3, 0], [0, 2]], [6, 0]
        ways, lost = Ways(6, ((2, 3),), (1,), one, kernel), Lost(12, ((2, 3),), row)
        one[0], kernel[1][1], row[0] = 3, 1, 5
        self.assertEqual((ways.one, ways.kernel, lost.row), ((2, 1), ((3, 0), (0, 2)), (6, 0)))
        self.assertTrue(is_ways(ways) and is_lost(lost))


class Kernels(unittest.TestCase):
    def check(self, modulus, matrix):
        width = len(matrix[0])
        told = judge_kernel(modulus, matrix)
        self.assertEqual((told.modulus, told.matrix), (modulus, matrix))
        if type(told) is Faithful:
            self.assertEqual([len(told.back), len(told.back[0])], [width, len(matrix)])
            wanted = tuple(tuple(int(row == at) for at in range(width)) for row in range(width))
            self.assertEqual(times(modulus, told.back, matrix), wanted)
            self.assertIs(is_faithful(told), True)
        else:
            self.assertIs(type(told), Lost)
            self.assertTrue(any(told.row))
            self.assertEqual(len(told.row), width)
            self.assertFalse(any(applied(modulus, matrix, told.row)))
            self.assertIs(is_lost(told), True)
        numbers = [number for row in getattr(told, "back", ()) or (told.row,) for number in row]
        self.assertTrue(all(0 <= number < modulus for number in numbers))
        return type(told)

    def test_small(self):
        source = chance(8)
        for modulus in SMALL:
            for height, width in ((1, 1), (2, 1), (1, 2), (2, 2), (4, 2), (3, 3)):
                for _ in range(12):
                    matrix = random_matrix(source, modulus, height, width)
                    rows = rows_of(modulus, width)
                    zeros = [row for row in rows if not any(applied(modulus, matrix, row))]
                    self.assertEqual(self.check(modulus, matrix), Faithful if len(zeros) == 1 else Lost)

    def test_great(self):
        source = chance(9)
        for modulus in GREAT:
            kinds = [self.check(modulus, random_matrix(source, modulus, height, width))
                     for height, width in ((40, 6), (6, 40), (1, 2), (16, 16), (3, 300))]
            self.assertEqual([kinds[0], kinds[1], kinds[2], kinds[4]], [Faithful, Lost, Lost, Lost])

    def test_numbers_of_all_sizes(self):
        self.assertEqual(self.check(6, ((-4,), (9,))), Faithful)
        self.assertEqual(self.check(4, ((6, 4),)), Lost)
        self.assertEqual(self.check(4, ((4 * 10 ** 39,),)), Lost)

    def test_equal_calls(self):
        for modulus, matrix in ((6, ((2,), (3,))), (4, ((2,),)), (10 ** 18, ((2, 5), (4, 7)))):
            self.assertEqual(vars(judge_kernel(modulus, matrix)), vars(judge_kernel(modulus, matrix)))
            wish = (1,) * len(matrix)
            self.assertEqual(vars(solutions(modulus, matrix, wish)), vars(solutions(modulus, matrix, wish)))


if __name__ == "__main__":
    unittest.main()
