"""Point 13: whether two guards tell the same."""

import itertools
import unittest

from guardsums import alike as module
from guardsums.alike import Alike, Unlike, alike, is_alike, is_unlike, plain_told
from guardsums.errors import BadBlock, BadSize, OtherForm
from guardsums.guards import Guard
from guardsums.makers import behind_zeros, digits, mirrored, packed, pair, plain, remainder, turned
from guardsums.values import frozen
from tests.support import any_values, chance, random_matrix, random_undoable, rows_of, told

NO_INTEGERS = [value for value in any_values() if not isinstance(value, int)] + [True, False, 1.0, b"1"]
GREAT = 10 ** 40 - 1


def spelled(block, width):
    """The symbols of a plain block."""
    length, distance, number = block
    symbols = [(0,) * width for _ in range(length)]
    if distance is not None:
        symbols[length - 1 - distance] = tuple(int(at == number) for at in range(width))
    return symbols


def random_guard(source, modulus, size, width):
    return Guard(modulus, random_undoable(source, modulus, size), random_matrix(source, modulus, size, width),
                 random_matrix(source, modulus, 1, size)[0], random_matrix(source, modulus, 1, size)[0])


def moved(guard, by):
    """The guard with start less by a row and end more by what this takes away, where the matrix is the identity."""
    return Guard(guard.modulus, guard.matrix, guard.columns,
                 [(number - less) % guard.modulus for number, less in zip(guard.start, by)],
                 [(number + more) % guard.modulus for number, more in zip(guard.end, by)])


class AlikeTest(unittest.TestCase):
    def raises(self, error, fields, call, *arguments):
        with self.assertRaises(error) as caught:
            call(*arguments)
        for name, value in fields.items():
            told = getattr(caught.exception, name)
            self.assertTrue(told is value or (type(told) is type(value) and told == value), (name, told, value))


class PlainBlocks(AlikeTest):
    def test_interface(self):
        for name in ("plain_told", "alike", "Alike", "Unlike", "is_alike", "is_unlike"):
            self.assertEqual(getattr(module, name).__module__, "guardsums.alike")

    def test_against_all_symbols(self):
        source = chance(1)
        for modulus in (2, 6, 10 ** 18):
            for size, width in ((1, 1), (2, 3), (5, 2)):
                guard = random_guard(source, modulus, size, width)
                for length in range(6):
                    blocks = [(length, None, None)]
                    blocks += [(length, distance, number) for distance in range(length) for number in range(width)]
                    for block in blocks:
                        wanted = told(guard, spelled(block, width))
                        self.assertEqual(plain_told(guard, block), wanted)
                        self.assertEqual(plain_told(guard, list(block)), wanted)

    def test_great_lengths(self):
        guard = digits(97, 10)
        self.assertEqual(plain_told(guard, (GREAT, GREAT - 1, 0)), (pow(10, GREAT - 1, 97),))
        self.assertEqual(plain_told(guard, (GREAT, None, None)), (0,))
        self.assertEqual(plain_told(pair(7, 3), (10 ** 30, 10 ** 30 - 1, 0)), (4, (3 * 10 ** 30 + 10 ** 30) % 7))
        self.assertEqual(plain_told(pair(7, 3), (2 ** 4000, None, None)), (3, 3 * 2 ** 4000 % 7))

    def test_errors(self):
        guard = Guard(10, [[1]], [[1, 2]], [0], [0])
        wrong = any_values() + [
            (3, 0), (3, 0, 0, 0), (-1, None, None), (True, None, None), (None, None, None), ("3", 0, 0), (3, None, 0),
            (3, 0, None), (3, 3, 0), (3, -1, 0), (0, 0, 0), (3, True, 0), (3, 0, 2), (3, 0, -1), (3, 0, False), "abc",
            (3, "0", 0), (3, 0, "0"), {0: 3, 1: 0, 2: 0}, (3, [0], 0), ((3, 0, 0),)]
        for value in wrong:
            self.raises(BadBlock, {}, plain_told, guard, value)
        for value in ((3, 2, 1), [3, 0, 0], (0, None, None), (1, 0, 1)):
            self.assertEqual(len(plain_told(guard, value)), 1)


class Judged(AlikeTest):
    def check(self, one, other, first, step, lengths):
        """Whether what is told agrees with all blocks of the first lengths, if there is a difference among them."""
        answer = alike(one, other, first, step)
        apart = None
        for length in lengths:
            blocks = itertools.product(rows_of(one.modulus, one.width), repeat=length)
            if any(told(one, block) != told(other, block) for block in blocks):
                apart = length
                break
        self.assertEqual((answer.one == one, answer.other == other, answer.first, answer.step),
                         (True, True, first, step))
        if type(answer) is Unlike:
            self.assertIs(is_unlike(answer), True)
            length, _, _ = answer.block
            self.assertEqual((length - first) % step, 0)
            self.assertGreaterEqual(length, first)
            symbols = spelled(answer.block, one.width)
            self.assertNotEqual(told(one, symbols), told(other, symbols))
            self.assertEqual(apart, length if length <= lengths[-1] else None)
        else:
            self.assertIs(type(answer), Alike)
            self.assertIs(is_alike(answer), True)
            self.assertIsNone(apart)
        return answer

    def test_document(self):
        one, other = Guard(5, [[1]], [[1]], [0], [0]), Guard(5, [[1]], [[1]], [1], [4])
        answer = alike(one, Guard(5, [[2]], [[1]], [0], [0]))
        self.assertEqual([type(alike(one, other)).__name__, answer.block, is_unlike(answer),
                          plain_told(other, (10 ** 30, 7, 0))], ["Alike", (2, 1, 0), True, (1,)])
        late = alike(Guard(7, [[2]], [[1]], [5], [1]), Guard(7, [[2]], [[1]], [5], [2]), 3, 10 ** 20)
        self.assertEqual(late.block[0], 3)

    def test_all_of_one_number(self):
        for modulus in (2, 3, 4):
            numbers = range(modulus)
            units = [number for number in numbers if any(number * other % modulus == 1 for other in numbers)]
            guards = [Guard(modulus, [[a]], [[b]], [c], [d]) for a in units for b in numbers for c in numbers
                      for d in (0, 1)]
            for one, other in itertools.product(guards[::3], guards):
                self.check(one, other, 0, 1, range(5))
                self.check(one, other, 1, 2, range(1, 6, 2))

    def test_random(self):
        source = chance(2)
        kinds = {Alike: 0, Unlike: 0}
        for turn in range(120):
            modulus, size = source.choice([2, 2, 3, 4]), source.choice([1, 2, 3])
            one = random_guard(source, modulus, size, 1)
            other = random_guard(source, modulus, size, 1)
            if turn % 2:
                # One thing otherwise alone: these come apart late or not at all.
                changed = source.choice(["start", "end", "columns", "matrix"])
                parts = {name: getattr(source.choice([one] * 3 + [other]) if name == changed else one, name)
                         for name in ("matrix", "columns", "start", "end")}
                other = Guard(modulus, parts["matrix"], parts["columns"], parts["start"], parts["end"])
            first, step = source.randrange(4), source.choice([1, 1, 2, 3])
            kinds[type(self.check(one, other, first, step, range(first, 7, step)))] += 1
        self.assertGreater(min(kinds.values()), 5)

    def test_wide_symbols(self):
        source = chance(3)
        for modulus, size, width in ((2, 2, 2), (3, 2, 2), (2, 3, 3)):
            for _ in range(6):
                one = random_guard(source, modulus, size, width)
                columns = [list(row) for row in one.columns]
                columns[-1][source.randrange(width)] = source.randrange(modulus)
                other = Guard(modulus, one.matrix, columns, one.start, one.end)
                self.check(one, other, 0, 1, range(4))
                self.check(one, mirrored(one), 0, 1, range(4))

    def test_written_otherwise(self):
        source = chance(4)
        for modulus in (2, 6, 255, 10 ** 18):
            guard = random_guard(source, modulus, 4, 2)
            matrix = random_undoable(source, modulus, 4)
            self.assertIs(type(alike(behind_zeros(turned(guard, matrix), 10 ** 29),
                                     turned(behind_zeros(guard, 10 ** 29), matrix))), Alike)
            self.assertIs(type(alike(packed(packed(guard, 2), 3), packed(guard, 6), 10 ** 39, 10 ** 38)), Alike)
            self.assertIs(type(alike(mirrored(mirrored(guard)), guard)), Alike)
            self.assertIs(type(alike(turned(guard, matrix), guard)), Unlike)

    def test_ends_moved_into_starts(self):
        one = Guard(10, [[1, 0], [0, 1]], [[1], [3]], [2, 4], [0, 5])
        self.assertIs(type(self.check(one, moved(one, (7, 1)), 0, 1, range(4))), Alike)
        self.assertEqual(alike(one, Guard(10, one.matrix, one.columns, one.start, (1, 5))).block, (0, None, None))

    def test_lengths(self):
        # Both tell the same of zeros of every length that is even, and of no other one.
        one, other = Guard(5, [[4]], [[0]], [1], [0]), Guard(5, [[1]], [[0]], [1], [0])
        self.assertIs(type(alike(one, other, 0, 2)), Alike)
        self.assertIs(type(alike(one, other, GREAT - 1, 2 * 10 ** 30)), Alike)
        for first, step, length in ((0, 1, 1), (1, 1, 1), (2, 1, 3), (2, 3, 5), (GREAT, 2, GREAT), (GREAT - 1, 1, GREAT),
                                    (GREAT - 1, 10 ** 30 + 1, GREAT + 10 ** 30)):
            answer = alike(one, other, first, step)
            self.assertEqual(answer.block, (length, None, None))
            self.assertIs(is_unlike(answer), True)

    def test_distances(self):
        # A bit goes round four places; a change of the first row is met when it comes by.
        one = Guard(2, [[0, 1, 0, 0], [0, 0, 1, 0], [0, 0, 0, 1], [1, 0, 0, 0]], [[0], [0], [0], [1]], [0] * 4, [0] * 4)
        for changed, distance in (((0, 1, 0, 0), None), ((1, 1, 0, 0), 4), ((0, 1, 1, 0), 2), ((0, 1, 0, 1), 1)):
            other = Guard(2, (changed,) + one.matrix[1:], one.columns, one.start, one.end)
            for first, step in ((0, 1), (1, 1), (0, 7), (2, 7), (10 ** 30, 10 ** 30), (3, 1), (0, 3), (5, 5)):
                answer = alike(one, other, first, step)
                if distance is None:
                    self.assertIs(type(answer), Alike)
                else:
                    length = min(length for length in range(first, first + 9 * step, step) if length > distance)
                    self.assertEqual(answer.block, (length, distance, 0))
                    self.assertIs(is_unlike(answer), True)

    def test_as_late_as_can_be(self):
        # Two registers of k bits may agree up to distance 2 k - 1 at most, and on zeros for 2 k lengths.
        for modulus, size in ((2, 2), (2, 3), (3, 2)):
            source, latest, latest_zeros = chance(5), 0, 0
            for _ in range(1500):
                one, other = random_guard(source, modulus, size, 1), random_guard(source, modulus, size, 1)
                other = Guard(modulus, other.matrix, one.columns, one.start, one.end)
                answer = alike(one, other)
                if type(answer) is Unlike and answer.block[1] is not None:
                    latest = max(latest, answer.block[1])
                    length = answer.block[0]
                    self.assertEqual(plain_told(one, (length - 1, None, None)), plain_told(other, (length - 1, None, None)))
                elif type(answer) is Unlike:
                    latest_zeros = max(latest_zeros, answer.block[0])
            self.assertGreaterEqual(latest, size)
            self.assertGreaterEqual(latest_zeros, 1)
            self.assertLess(latest, 2 * size)

    def test_zeros_at_the_last_length_that_counts(self):
        # 1, 2, 4, 3, .. modulo 5 against what an end and two starts can copy of it: the third length parts them.
        one = Guard(5, [[2]], [[0]], [1], [0])
        other = Guard(5, [[1]], [[0]], [1], [0])
        self.assertEqual(alike(one, other).block, (1, None, None))
        third = Guard(5, [[3]], [[0]], [2], [4])
        self.assertEqual([plain_told(third, (length, None, None)) for length in range(3)], [(1,), (0,), (2,)])
        found = 0
        for start, end, factor in itertools.product(range(5), range(5), range(1, 5)):
            answer = alike(one, Guard(5, [[factor]], [[0]], [start], [end]))
            found = max(found, answer.block[0]) if type(answer) is Unlike else found
        self.assertEqual(found, 2)


class Papers(AlikeTest):
    def setUp(self):
        self.one = Guard(5, [[1]], [[1]], [0], [0])
        self.other = Guard(5, [[2]], [[1]], [0], [0])

    def test_is_alike(self):
        self.assertIs(is_alike(Alike(self.one, moved(self.one, (1,)), 0, 1)), True)
        self.assertIs(is_alike(Alike(self.one, self.other, 0, 1)), False)
        # Starts and ends are told apart by the lengths alone.
        other = Guard(5, [[4]], [[0]], [1], [0])
        same = Guard(5, [[1]], [[0]], [1], [0])
        for first, step, wanted in ((0, 2, True), (0, 1, False), (1, 2, False), (2, 4, True), (2, 3, False)):
            self.assertIs(is_alike(Alike(other, same, first, step)), wanted)

    def test_one_number_otherwise(self):
        guard = remainder(4, 3, 5, 9)
        self.assertIs(is_alike(Alike(guard, remainder(4, 3, 5, 9), 0, 1)), True)
        for other in (remainder(4, 3, 5, 8), remainder(4, 3, 4, 9), remainder(4, 9, 5, 9)):
            self.assertIs(is_alike(Alike(guard, other, 0, 1)), False)
            self.assertIs(is_unlike(alike(guard, other)), True)
            block = alike(guard, other).block
            self.assertIs(is_unlike(Unlike(guard, guard, 0, 1, block)), False)

    def test_any_block(self):
        # All plain blocks of up to five symbols: a 1 at a distance above 0 is told apart.
        for length in range(6):
            self.assertIs(is_unlike(Unlike(self.one, self.other, 0, 1, (length, None, None))), False)
            for distance in range(length):
                for first, step in ((0, 1), (0, 2), (1, 3), (4, 1), (5, 10 ** 30)):
                    wanted = distance not in (0, 4) and length >= first and (length - first) % step == 0
                    block = [length, distance, 0]
                    self.assertIs(is_unlike(Unlike(self.one, self.other, first, step, block)), wanted)
                    self.assertIs(is_unlike(Unlike(self.one, self.other, first, step, tuple(block))), wanted)
        self.assertIs(is_unlike(Unlike(self.one, self.other, 0, 1, (GREAT, GREAT - 1, 0))), True)
        self.assertIs(is_unlike(Unlike(self.one, self.other, 1, 1, (GREAT + 1, GREAT - 3, 0))), False)

    def test_other_values(self):
        for value in any_values() + [(2, 1), (2, 1, 0, 0), (2, 2, 0), (2, 1, 1), (2, -1, 0), (2, True, 0), (True, 0, 0),
                                     (2, 1, None), (2, None, 0), (-1, None, None), ("2", 1, 0), (2, 1, False)]:
            self.assertIs(is_unlike(Unlike(self.one, self.other, 0, 1, value)), False)

    def test_fields(self):
        block = [2, [1], {"A": [0]}]
        unlike = Unlike(self.one, self.other, 3, 4, block)
        self.assertEqual((unlike.one, unlike.other, unlike.first, unlike.step, unlike.block),
                         (self.one, self.other, 3, 4, (2, (1,), {"A": (0,)})))
        block[0] = 3
        self.assertEqual(unlike.block[0], 2)
        self.assertEqual(sorted(vars(unlike)), ["block", "first", "one", "other", "step"])
        self.assertEqual(Alike(self.one, self.other, [1, [2]], ([3],)).first, (1, (2,)))
        self.assertEqual(Alike(self.one, self.other, [1, [2]], ([3],)).step, ((3,),))
        same = Alike(self.one, self.other, None, "1")
        self.assertEqual((same.one, same.other, same.first, same.step), (self.one, self.other, None, "1"))
        for value in any_values():
            if not isinstance(value, (list, tuple, dict)):
                self.assertIs(Unlike(self.one, self.other, 0, 1, value).block, value)

    def test_other_form(self):
        for other in (Guard(7, [[1]], [[1]], [0], [0]), Guard(5, [[1]], [[1, 1]], [0], [0]),
                      Guard(5, [[1, 0], [0, 1]], [[1], [1]], [0, 0], [0, 0]), pair(5)):
            self.raises(OtherForm, {}, alike, self.one, other, None, None)
            self.raises(OtherForm, {}, is_alike, Alike(self.one, other, None, None))
            self.raises(OtherForm, {}, is_unlike, Unlike(self.one, other, None, None, None))

    def test_sizes(self):
        for value in NO_INTEGERS + [-1, -GREAT]:
            self.raises(BadSize, {"size": value}, alike, self.one, self.other, value, None)
            field = frozen(value)
            self.raises(BadSize, {"size": field}, is_alike, Alike(self.one, self.other, value, None))
            self.raises(BadSize, {"size": field}, is_unlike, Unlike(self.one, self.other, value, None, None))
        for value in NO_INTEGERS + [0, -1, -GREAT]:
            for first in (0, GREAT):
                self.raises(BadSize, {"size": value}, alike, self.one, self.other, first, value)
                field = frozen(value)
                self.raises(BadSize, {"size": field}, is_alike, Alike(self.one, self.other, first, value))
                self.raises(BadSize, {"size": field}, is_unlike, Unlike(self.one, self.other, first, value, None))

    def test_unless_told(self):
        one, other = plain(9), digits(9, 2)
        self.assertEqual(vars(alike(one, other)), vars(alike(one, other, 0, 1)))
        self.assertEqual(alike(one, other, 5).block, alike(one, other, 5, 1).block)


if __name__ == "__main__":
    unittest.main()
