"""Point 20: starts and ends, and polynomials, that fit samples."""

import itertools
import time
import unittest

from guardsums import fitting as module
from guardsums.binary import is_sum, powers_of
from guardsums.errors import BadSample, BadWidth, TooMany
from guardsums.fitting import Fit, NoFit, count_fits, fit, is_fit, is_no_fit, remainders
from guardsums.guards import Guard
from guardsums.howell import howell, span_size
from guardsums.makers import digits, packed, pair, plain, remainder
from tests.support import (Checks, any_values, chance, no_integers, random_block, random_guard, random_matrix,
                           rows_of, told)


def with_ends(guard, start, end):
    return Guard(guard.modulus, guard.matrix, guard.columns, start, end)


def fitting(guard, samples):
    """All starts and ends that tell all samples, by trying all."""
    rows = rows_of(guard.modulus, guard.size)
    return [(start, end) for start, end in itertools.product(rows, repeat=2)
            if all(told(with_ends(guard, start, end), block) == sums for block, sums in samples)]


def no_fit_by_words(guard, samples, left):
    """Whether left shows that no start and end tell all samples, by trying all of them."""
    rows, size, modulus = rows_of(guard.modulus, guard.size), guard.size, guard.modulus
    zeros = (0,) * size

    def weighed(others):
        return sum(a * b for a, b in zip(left, sum(others, ()))) % modulus

    none = with_ends(guard, zeros, zeros)
    base = weighed([told(none, block) for block, _ in samples])
    if (weighed([sums for _, sums in samples]) - base) % modulus == 0:
        return False
    return all((weighed([told(with_ends(guard, start, end), block) for block, _ in samples]) - base) % modulus == 0
               for start, end in itertools.product(rows, repeat=2))


def random_samples(source, guard, many, most, wrong=0):
    """Samples that the guard tells; so many of them with other sums."""
    samples = []
    for _ in range(many):
        block = random_block(source, guard.modulus, guard.width, source.randrange(most + 1))
        samples.append((block, told(guard, block)))
    for _ in range(wrong):
        at = source.randrange(many)
        samples[at] = (samples[at][0], random_matrix(source, guard.modulus, 1, guard.size)[0])
    return samples


class Fitting(Checks):
    def check(self, guard, samples):
        right, answer = fitting(guard, samples), fit(guard, samples)
        self.assertTrue(answer.guard == guard)
        self.assertEqual(answer.samples, tuple((tuple(block), sums) for block, sums in samples))
        self.assertEqual(count_fits(guard, samples), len(right))
        if right:
            self.assertIs(type(answer), Fit)
            self.assertIn((answer.start, answer.end), right)
            first = sum(right[0], ())
            rows = [tuple(a - b for a, b in zip(sum(other, ()), first)) for other in right]
            self.assertEqual(answer.kernel, howell(guard.modulus, rows, 2 * guard.size))
            self.assertEqual(span_size(guard.modulus, list(answer.kernel), 2 * guard.size), len(right))
            self.assertIs(is_fit(answer), True)
        else:
            self.assertIs(type(answer), NoFit)
            self.assertEqual(len(answer.left), guard.size * len(samples))
            self.assertIs(is_no_fit(answer), True)
            self.assertTrue(no_fit_by_words(guard, samples, answer.left))
        return type(answer)

    def test_interface(self):
        self.defined(module, ("fit", "Fit", "NoFit", "count_fits", "is_fit", "is_no_fit", "remainders"))

    def test_document(self):
        samples = [([], (3,)), ([(1,)], (4,))]
        found = fit(plain(10), samples)
        self.assertEqual([(found.start[0] + found.end[0]) % 10, found.kernel, count_fits(plain(10), samples)],
                         [3, ((1, 9),), 10])
        none = fit(plain(10), [([], (3,)), ([(1,)], (5,))])
        self.assertEqual([sum(none.left) % 10, is_no_fit(none)], [0, True])
        self.assertEqual(remainders(2, [([(1,), (0,), (0,)], (1, 0)), ([(0,), (0,), (0,)], (0, 0))]), (3,))

    def test_all_starts_and_ends(self):
        source, found = chance(1), {Fit: 0, NoFit: 0}
        for modulus, size, width in ((2, 1, 1), (2, 2, 1), (2, 3, 1), (3, 1, 1), (4, 1, 1), (3, 2, 1), (6, 1, 1), (4, 2, 1), (2, 2, 2),
                                     (12, 1, 1), (9, 1, 2)):
            for _ in range(6):
                guard = random_guard(source, modulus, size, width)
                for many, wrong in ((1, 0), (1, 1), (2, 0), (2, 1), (3, 1), (5, 0)):
                    found[self.check(guard, random_samples(source, guard, many, 5, wrong))] += 1
        self.assertGreater(min(found.values()), 50)

    def test_start_and_end_of_the_guard_do_not_matter(self):
        source = chance(2)
        for modulus, size in ((6, 2), (2, 3)):
            guard = random_guard(source, modulus, size, 1)
            other = with_ends(guard, (1,) * size, (1,) * size)
            for wrong in (0, 1):
                samples = random_samples(source, guard, 4, 6, wrong)
                one, same = vars(fit(guard, samples)), vars(fit(other, samples))
                self.assertTrue(one.pop("guard") == guard and same.pop("guard") == other)
                self.assertEqual(one, same)
                self.assertEqual(count_fits(guard, samples), count_fits(other, samples))

    def test_great_guards(self):
        source = chance(3)
        for modulus, size, width in ((10 ** 18, 4, 2), (2, 16, 1), (12, 16, 16), (65521, 2, 1)):
            guard = random_guard(source, modulus, size, width)
            samples = random_samples(source, guard, 12, 30)
            found = fit(guard, samples)
            self.assertIs(is_fit(found), True)
            for block, sums in samples:
                self.assertEqual(told(with_ends(guard, found.start, found.end), block), sums)
            block, sums = samples[7]
            samples[7] = (block, sums[:-1] + ((sums[-1] + 1) % modulus,))
            wrong = fit(guard, samples)
            self.assertIs(type(wrong), NoFit)
            self.assertIs(is_no_fit(wrong), True)
            self.assertEqual(count_fits(guard, samples), 0)

    def test_most_samples_and_symbols(self):
        source = chance(4)
        guard = pair(65521, 7)
        samples = random_samples(source, guard, 63, 20)
        samples.append(([(1,)] * 1000, told(guard, [(1,)] * 1000)))
        found = fit(guard, samples)
        self.assertIs(is_fit(found), True)
        self.assertEqual((found.start, count_fits(guard, samples) % 65521), ((7, found.start[1]), 0))
        samples[0] = (samples[0][0], (5, 5))
        wrong = fit(guard, samples)
        self.assertEqual((is_no_fit(wrong), len(wrong.left)), (True, 128))

    def test_one_sample(self):
        # Any start goes with one end.
        for guard in (plain(10), pair(7), packed(remainder(8, 7), 8)):
            for block in ([], [(1,) * guard.width] * 3):
                sums = told(guard, block)
                self.assertEqual(count_fits(guard, [(block, sums)]), guard.modulus ** guard.size)
                self.assertIs(is_fit(fit(guard, [(block, sums)])), True)

    def test_same_block(self):
        block = [(3,), (4,)]
        self.assertEqual(count_fits(plain(10), [(block, (1,)), (block, (1,))]), 10)
        self.assertIs(type(fit(plain(10), [(block, (1,)), (block, (2,))])), NoFit)

    def test_lists_and_tuples(self):
        samples = [([(1,)], (4,)), ([], (3,))]
        same = ((((1,),), (4,)), ((), (3,)))
        one, other = vars(fit(plain(10), samples)), vars(fit(plain(10), same))
        self.assertTrue(one.pop("guard") == other.pop("guard"))
        self.assertEqual(one, other)
        samples[0][0].append((5,))
        self.assertEqual(one["samples"], same)


class Polynomials(Checks):
    def check(self, width, samples):
        wanted = tuple(polynomial for polynomial in range(1, 2 ** width, 2)
                       if type(fit(remainder(width, polynomial), samples)) is Fit)
        self.assertEqual(remainders(width, samples), wanted)
        return wanted

    def test_against_fits(self):
        source = chance(5)
        for width in range(1, 9):
            for _ in range(4 if width < 7 else 1):
                polynomial = source.randrange(1, 2 ** width, 2)
                guard = remainder(width, polynomial, source.randrange(2 ** width), source.randrange(2 ** width))
                for many in (1, 2, 3, 5):
                    samples = random_samples(source, guard, many, 12)
                    self.assertIn(polynomial, self.check(width, samples))
                    self.check(width, random_samples(source, guard, many, 12, 1))

    def test_all_of_small_widths(self):
        for width in (1, 2):
            blocks = [list(block) for length in range(4) for block in itertools.product([(0,), (1,)], repeat=length)]
            for one, other in itertools.combinations(blocks[::2], 2):
                for sums in rows_of(2, width):
                    self.check(width, [(one, (0,) * width), (other, sums)])

    def test_most(self):
        source = chance(6)
        guard = remainder(8, 0x1D, 0xFF, 0xFF)
        samples = [(block, guard.told(block)) for block in (random_block(source, 2, 1, 1000 - at) for at in range(64))]
        ahead = time.process_time()
        self.assertEqual(remainders(8, samples), (0x1D,))
        self.assertEqual(remainders(8, [([(1,)] * 1000, (0,) * 8)] * 64), tuple(range(1, 256, 2)))
        # Each of them by itself, symbol by symbol, would take half a minute.
        self.assertLess(time.process_time() - ahead, 5)
        samples[63] = (samples[63][0], (0, 1, 0, 1, 0, 1, 1, 1))
        self.assertNotEqual(samples[63][1], guard.told(samples[63][0]))
        self.assertEqual(remainders(8, samples), ())

    def test_widths(self):
        for value in no_integers() + [0, -1, 9, 10 ** 30]:
            self.raises(BadWidth, {"width": value}, remainders, value, [])
        self.assertEqual(remainders(1, [([], (0,))]), (1,))
        self.assertEqual(remainders(8, [([], (0,) * 8)]), tuple(range(1, 256, 2)))

    def test_samples(self):
        for many in (0, 65, 100):
            self.raises(TooMany, {"what": "samples", "many": many, "most": 64}, remainders, 3, [None] * many)
        good = ([(1,), (0,)], (1, 0, 1))
        for value in [([(2,)], (1, 0, 1)), ([(1, 0)], (1, 0, 1)), ([], (1, 0)), ([], (1, 0, 2)), ([(1,)] * 1001, (0, 0, 0)), good[0],
                      ([(True,)], (1, 0, 1)), [[], (0, 0, 0)]] + any_values():
            self.raises(BadSample, {"index": 1}, remainders, 3, [good, value, None])
        self.assertEqual(len(remainders(3, [good])), 4)

    def test_parts(self):
        for width, polynomial in ((1, 1), (3, 3), (8, 0x1D)):
            powers = powers_of(width, polynomial, 40)
            self.assertEqual(powers[:width], [2 ** at for at in range(width)])
            for one, further in zip(powers, powers[1:]):
                wanted = one * 2
                if wanted >= 2 ** width:
                    wanted ^= 2 ** width + polynomial
                self.assertEqual(further, wanted)
        for numbers in ([], [1], [1, 2], [3, 5], [3, 5, 6], [7, 7], [0, 4]):
            sums = {0}
            for number in numbers:
                sums |= {one ^ number for one in sums}
            self.assertEqual([number for number in range(9) if is_sum(numbers, number)], sorted(sums))


class Wrong(Checks):
    def calls(self, guard, samples):
        return ((fit, guard, samples), (count_fits, guard, samples), (is_fit, Fit(guard, samples, None, None, None)),
                (is_no_fit, NoFit(guard, samples, None)))

    def test_how_many(self):
        for many in (0, 65, 66, 1000):
            for samples in ([None] * many, tuple([([], (0,))] * many)):
                for call in self.calls(plain(10), samples):
                    self.raises(TooMany, {"what": "samples", "many": many, "most": 64}, *call)
        for many in (1, 64):
            self.assertIs(type(fit(plain(10), [([], (0,))] * many)), Fit)

    def test_samples(self):
        guard = Guard(10, [[1, 2], [0, 3]], [[1, 0, 2], [5, 9, 4]], [7, 8], [0, 9])
        good = ([(1, 2, 3)] * 2, (4, 5))
        wrong = any_values() + [
            ([], (4,)), ([], (4, 5, 6)), ([], (4, 10)), ([], (-1, 4)), ([], (True, 4)), ([], None), (None, (4, 5)), ((4, 5), []),
            ([(1, 2)], (4, 5)), ([(1, 2, 10)], (4, 5)), ([(1, 2, True)], (4, 5)), ([[1, 2, 3]], (4, 5)), ("", (4, 5)), ({}, (4, 5)),
            ([(1, 2, 3)] * 1001, (4, 5)), ([(1, 2, 3)] * 5 + [None], (4, 5)), ([], (4, 5), 6), ([],), ([], "45"), good[0]]
        for value in wrong:
            for samples, index in (([value], 0), ([good, value, None], 1), ((good, good, good, value), 3)):
                for call in self.calls(guard, samples)[:2]:
                    self.raises(BadSample, {"index": index}, *call)
        for value in wrong:
            # Lists are tuples in fields: there this one is a symbol.
            if value != ([[1, 2, 3]], (4, 5)):
                for call in self.calls(guard, [good, value])[2:]:
                    self.raises(BadSample, {"index": 1}, *call)
        # A list of two is no pair, and what is told is no list.
        for value in ([[], (4, 5)], ([], [4, 5])):
            self.raises(BadSample, {"index": 0}, fit, guard, [value])
            self.raises(BadSample, {"index": 0}, count_fits, guard, [value])
        self.assertIn(type(fit(guard, [good, ([(1, 2, 3)] * 1000, (4, 5)), ((), (0, 0))])), (Fit, NoFit))


class Papers(Checks):
    def test_is_fit(self):
        source = chance(7)
        for modulus, size in ((4, 1), (6, 1), (2, 2), (3, 2)):
            for _ in range(4):
                guard = random_guard(source, modulus, size, 1)
                samples = random_samples(source, guard, 2, 4)
                answer, right = fit(guard, samples), fitting(guard, samples)
                for start, end in itertools.product(rows_of(modulus, size), repeat=2):
                    wanted = (start, end) in right
                    self.assertIs(is_fit(Fit(guard, samples, start, end, answer.kernel)), wanted)
                    more = [number - modulus * 10 ** 30 for number in start], [number + modulus for number in end]
                    self.assertIs(is_fit(Fit(guard, samples, *more, [list(row) for row in answer.kernel])), wanted)
                for at, row in enumerate(answer.kernel):
                    for place in range(len(row)):
                        kernel = [list(line) for line in answer.kernel]
                        kernel[at][place] += source.choice([1, -1, modulus])
                        self.assertIs(is_fit(Fit(guard, samples, answer.start, answer.end, kernel)), False)
                less = answer.kernel[1:] if answer.kernel else ((1,) + (0,) * (2 * size - 1),)
                self.assertIs(is_fit(Fit(guard, samples, answer.start, answer.end, less)), False)
                # With other sums there is no fit, whatever is told.
                other = [(block, tuple((number + 1) % modulus for number in sums)) for block, sums in samples[:1]] + samples[1:]
                wanted = (answer.start, answer.end) in fitting(guard, other)
                self.assertIs(is_fit(Fit(guard, other, answer.start, answer.end, answer.kernel)), wanted)

    def test_other_values(self):
        samples = [([], (3,)), ([(1,)], (4,))]
        good = fit(plain(10), samples)
        self.assertIs(is_fit(Fit(plain(10), samples, (1,), (2,), ((1, 9),))), True)
        self.assertIs(is_fit(good), True)
        for value in any_values() + [1, (1, 0), (True,), ("1",), ((1,),), (None,)]:
            self.assertIs(is_fit(Fit(plain(10), samples, value, (2,), good.kernel)), False)
            self.assertIs(is_fit(Fit(plain(10), samples, (1,), value, good.kernel)), False)
        for value in any_values() + [((1, 9), (0, 10)), ((1,),), (1, 9), ((11, 9),), ((1, -1),), ((True, 9),), ((1, 9, 0),), ((9, 1),)]:
            self.assertIs(is_fit(Fit(plain(10), samples, (1,), (2,), value)), False)

    def test_is_no_fit(self):
        source, seen = chance(8), {True: 0, False: 0}
        for modulus, size, many in ((4, 1, 3), (6, 1, 3), (2, 2, 2), (3, 1, 3), (2, 1, 4)):
            for _ in range(6):
                guard = random_guard(source, modulus, size, 1)
                samples = random_samples(source, guard, many, 4, 1)
                for left in rows_of(modulus, size * many)[:300]:
                    wanted = no_fit_by_words(guard, samples, left)
                    self.assertIs(is_no_fit(NoFit(guard, samples, left)), wanted)
                    more = [number + modulus * source.randrange(-10 ** 30, 10 ** 30) for number in left]
                    self.assertIs(is_no_fit(NoFit(guard, samples, more)), wanted)
                    seen[wanted] += 1
        self.assertGreater(min(seen.values()), 20)

    def test_other_lefts(self):
        samples = [([], (3,)), ([(1,)], (5,))]
        for value in any_values() + [(1,), (1, 9, 0), 1, ((1,), (9,)), (True, 9), ("1", "9"), (None, 1)]:
            self.assertIs(is_no_fit(NoFit(plain(10), samples, value)), False)
        for value, wanted in (((1, 9), True), ([9, 1], True), ((1, -1), True), ((2, 8), True), ((0, 0), False), ((1, 1), False),
                              ((11, 9 - 10 ** 30), True)):
            self.assertIs(is_no_fit(NoFit(plain(10), samples, value)), wanted)
        self.assertIs(is_no_fit(NoFit(plain(10), [([], (3,)), ([(1,)], (4,))], (1, 9))), False)
        self.assertIs(is_no_fit(NoFit(digits(97, 10), samples, (1, 9))), False)

    def test_fields(self):
        samples, start, kernel = [([[1], (2,)], [3])], [1, [2]], [[1, 9]]
        found, none = Fit(plain(10), samples, start, start, kernel), NoFit(plain(10), samples, start)
        samples[0][0].append(5)
        start[1].append(5)
        kernel[0].append(5)
        self.assertEqual([found.samples, found.start, found.end, found.kernel],
                         [((((1,), (2,)), (3,)),), (1, (2,)), (1, (2,)), ((1, 9),)])
        self.assertEqual([none.samples, none.left], [((((1,), (2,)), (3,)),), (1, (2,))])
        self.assertEqual((sorted(vars(found)), sorted(vars(none))),
                         (["end", "guard", "kernel", "samples", "start"], ["guard", "left", "samples"]))


if __name__ == "__main__":
    unittest.main()
