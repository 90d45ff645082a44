"""Point 17: a symbol put in."""

import unittest

from guardsums import putin as module
from guardsums.errors import BadSymbol
from guardsums.guards import Guard
from guardsums.makers import digits, packed, pair, plain, remainder
from guardsums.putin import NeverPutIn, PutIn, is_never_put_in, is_put_in, put_in
from tests.support import (Checks, all_blocks, any_values, chance, random_block, random_guard, rows_of, state_behind,
                           told)


def unseen(guard, block, symbol):
    """Whether the symbol is unseen behind the block: the states behind both are the same."""
    block = list(block)
    return state_behind(guard, block + [symbol], guard.start) == state_behind(guard, block, guard.start)


def fewest(guard, symbol, most):
    """The fewest symbols of a block behind which a symbol (the told one) is unseen, by trying all; None if above most."""
    symbols = rows_of(guard.modulus, guard.width) if symbol is None else [symbol]
    for length in range(most + 1):
        for block in all_blocks(guard, length):
            if any(unseen(guard, block, one) for one in symbols):
                return length
    return None


def row_by_words(guard, symbol, size, row):
    """Whether the row shows that no block of so many symbols does it, by the words of the document."""
    modulus, size_of_state = guard.modulus, guard.size

    def step(state):
        return [sum(a * b for a, b in zip(line, state)) for line in guard.matrix]

    def dot(state):
        return sum(a * b for a, b in zip(row, state)) % modulus

    columns = [list(column) for column in zip(*guard.columns)]
    if symbol is None and any(dot(column) for column in columns):
        return False
    for _ in range(size):
        for column in columns:
            if dot([a - b for a, b in zip(step(column), column)]):
                return False
        columns = [step(column) for column in columns]
    state = list(guard.start)
    for _ in range(size):
        state = step(state)
    gap = [a - b for a, b in zip(state, step(state))]
    if symbol is not None:
        added = [sum(a * b for a, b in zip(line, symbol)) for line in guard.columns]
        gap = [a - b for a, b in zip(gap, added)]
    return dot(gap) != 0 and size_of_state == len(row)


class PuttingIn(Checks):
    def check(self, guard, symbol, most):
        answer = put_in(guard) if symbol is None else put_in(guard, symbol)
        self.assertTrue(answer.guard == guard)
        wanted = fewest(guard, symbol, most)
        if type(answer) is PutIn:
            self.assertIs(is_put_in(answer), True)
            self.assertTrue(unseen(guard, answer.block, answer.symbol))
            if symbol is not None:
                self.assertEqual(answer.symbol, symbol)
            self.assertLessEqual(len(answer.block), guard.size)
            self.assertEqual(wanted, len(answer.block) if len(answer.block) <= most else None)
            return len(answer.block)
        self.assertIs(type(answer), NeverPutIn)
        self.assertEqual(answer.symbol, symbol)
        self.assertIs(is_never_put_in(answer), True)
        self.assertEqual(len(answer.left), guard.size + 1)
        for size, row in enumerate(answer.left):
            self.assertTrue(row_by_words(guard, symbol, size, row))
        self.assertIsNone(wanted)
        return None

    def test_interface(self):
        self.defined(module, ("put_in", "PutIn", "NeverPutIn", "is_put_in", "is_never_put_in"))

    def test_document(self):
        answer = put_in(Guard(9, [[4]], [[3]], [1], [0]))
        self.assertEqual([answer.block, answer.symbol[0] % 3, put_in(Guard(2, [[1]], [[1]], [0], [0])).block], [(), 2, ()])
        guard = Guard(12, [[7]], [[4]], [1], [0])
        self.assertEqual([type(put_in(guard)).__name__, is_never_put_in(NeverPutIn(guard, None, ((3,), (3,))))],
                         ["NeverPutIn", True])
        self.assertEqual([put_in(Guard(5, [[2]], [[1]], [0], [0]), (1,)).block,
                          type(put_in(Guard(5, [[1]], [[1]], [0], [0]), (1,))).__name__], [((4,),), "NeverPutIn"])

    def test_all_of_one_number(self):
        found = {}
        for modulus in (2, 3, 4, 6):
            numbers = range(modulus)
            for matrix in [number for number in numbers if any(number * other % modulus == 1 for other in numbers)]:
                for column in numbers:
                    for start in numbers:
                        guard = Guard(modulus, [[matrix]], [[column]], [start], [1])
                        for symbol in [None] + rows_of(modulus, 1):
                            most = self.check(guard, symbol, 3)
                            found[most] = found.get(most, 0) + 1
        self.assertEqual(set(found), {None, 0, 1})
        self.assertGreater(min(found.values()), 20)

    def test_random(self):
        source, found = chance(1), {}
        cases = ((2, 2, 1, 4), (2, 3, 1, 5), (2, 4, 1, 6), (3, 2, 1, 4), (3, 3, 1, 5), (4, 2, 1, 4), (6, 2, 1, 3), (2, 2, 2, 3),
                 (2, 3, 2, 4), (9, 2, 1, 3), (12, 1, 1, 2), (4, 3, 1, 3), (2, 5, 1, 7))
        for modulus, size, width, most in cases:
            for _ in range(14):
                guard = random_guard(source, modulus, size, width)
                for symbol in (None, (0,) * width, random_block(source, modulus, width, 1)[0]):
                    length = self.check(guard, symbol, most)
                    found[length] = found.get(length, 0) + 1
        self.assertGreater(min(found[None], found[0], found[1], found[2], found[3]), 3)

    def test_the_same_is_told_of_all_that_follows(self):
        source = chance(2)
        for guard in (pair(7, 3), digits(97, 10), remainder(8, 7, 200), packed(remainder(8, 7, 200), 8), plain(10),
                      random_guard(source, 12, 3, 2)):
            for symbol in [None] + random_block(source, guard.modulus, guard.width, 3):
                answer = put_in(guard, symbol)
                if type(answer) is PutIn:
                    for many in range(5):
                        behind = random_block(source, guard.modulus, guard.width, many)
                        self.assertEqual(told(guard, list(answer.block) + [answer.symbol] + behind),
                                         told(guard, list(answer.block) + behind))

    def test_as_late_as_can_be(self):
        # A register of k bits: zeros are put in unseen once it is empty, which takes k bits.
        for size in (1, 2, 5, 16):
            polynomial = 1 if size == 1 else 3
            guard = remainder(size, polynomial, 1)
            answer = put_in(guard, (0,))
            self.assertIs(is_put_in(answer), True)
            if size > 1:
                self.assertGreater(len(answer.block), 0)
            self.assertLessEqual(len(answer.block), size)
        late = [len(put_in(remainder(size, 3, start), (0,)).block) for size in (2, 3, 4) for start in range(2 ** size)]
        self.assertEqual(max(late), 4)

    def test_great_guards(self):
        source = chance(3)
        for modulus, size, width in ((2, 16, 1), (2, 16, 16), (6, 16, 3), (10 ** 18, 16, 1), (10 ** 18, 16, 16), (10 ** 12, 5, 2)):
            guard = random_guard(source, modulus, size, width)
            for symbol in [None, (0,) * width, (1,) * width, random_block(source, modulus, width, 1)[0]]:
                answer = put_in(guard, symbol)
                if type(answer) is PutIn:
                    self.assertIs(is_put_in(answer), True)
                    self.assertTrue(unseen(guard, answer.block, answer.symbol))
                else:
                    self.assertIs(is_never_put_in(answer), True)
                    for length, row in enumerate(answer.left):
                        self.assertTrue(row_by_words(guard, symbol, length, row))

    def test_known_sums(self):
        # Sums see no 0 put in, and any other number; sums of sums see no 0 only where the sum is 0.
        self.assertEqual([put_in(plain(10)).symbol, put_in(plain(10), (0,)).block], [(0,), ()])
        self.assertIs(type(put_in(plain(10), (3,))), NeverPutIn)
        self.assertEqual([put_in(pair(7), (0,)).block, put_in(pair(7, 3), (0,)).block], [(), ((4,),)])
        self.assertIs(type(put_in(pair(7, 3), (1,))), NeverPutIn)
        # A start that no symbol can bring to rest.
        self.assertIs(type(put_in(Guard(2, [[1, 0], [1, 1]], [[0], [0]], [1, 0], [0, 0]))), NeverPutIn)

    def test_symbols(self):
        guard = Guard(10, [[3]], [[1, 2]], [2], [5])
        for value in any_values() + [[1, 2], (1,), (1, 2, 3), (1, 10), (-1, 0), (True, 0), (None, 0), "12", 1]:
            if value is not None:
                self.raises(BadSymbol, {"index": 0}, put_in, guard, value)
        for value in ((0, 0), (9, 9), None):
            self.assertIn(type(put_in(guard, value)), (PutIn, NeverPutIn))


class Papers(Checks):
    def test_is_put_in(self):
        guard = Guard(4, [[1, 1], [0, 3]], [[1], [2]], [1, 2], [0, 3])
        for length in range(4):
            for block in all_blocks(guard, length):
                for symbol in rows_of(4, 1):
                    self.assertIs(is_put_in(PutIn(guard, block, symbol)), unseen(guard, block, symbol))
                    self.assertIs(is_put_in(PutIn(guard, list(block), symbol)), unseen(guard, block, symbol))

    def test_long_blocks(self):
        for many in (10000, 10001, 30000):
            self.assertIs(is_put_in(PutIn(plain(10), ((3,),) * many, (0,))), True)
            self.assertIs(is_put_in(PutIn(pair(7), ((1,),) * many, (0,))), many % 7 == 0)

    def test_other_values(self):
        guard = Guard(5, [[2]], [[1]], [0], [0])
        answer = put_in(guard, (1,))
        self.assertIs(is_put_in(PutIn(guard, answer.block, answer.symbol)), True)
        for value in any_values() + [(4,), ((4, 0),), ((-1,),), ((9,),), ((True,),), ((4,), 4), (None,), "4", {0: (4,)}]:
            # The empty list is kept as an empty tuple, and this is a block: the symbol is seen behind it.
            self.assertIs(is_put_in(PutIn(guard, value, answer.symbol)), False)
        for value in any_values() + [1, (1, 0), (6,), (-4,), (True,), "1", ((1,),), ()]:
            self.assertIs(is_put_in(PutIn(guard, answer.block, value)), False)
        self.assertIs(is_put_in(PutIn(guard, [[4]], [1])), True)
        self.assertIs(is_put_in(PutIn(guard, (), (0,))), True)

    def test_is_never_put_in(self):
        source = chance(4)
        seen = {True: 0, False: 0}
        for modulus, size in ((4, 1), (6, 1), (2, 2), (3, 2), (4, 2)):
            for _ in range(25):
                guard = random_guard(source, modulus, size, 1)
                for symbol in (None, (0,), (1,)):
                    answer = put_in(guard, symbol)
                    rows = rows_of(modulus, size)
                    left = [source.choice(rows) for _ in range(size + 1)]
                    if type(answer) is NeverPutIn:
                        # The rows as told, one of them otherwise.
                        left = list(answer.left)
                        left[source.randrange(size + 1)] = source.choice(rows)
                    wanted = all(row_by_words(guard, symbol, at, row) for at, row in enumerate(left))
                    self.assertIs(is_never_put_in(NeverPutIn(guard, symbol, left)), wanted)
                    more = [[number + modulus * source.randrange(-10 ** 30, 10 ** 30) for number in row] for row in left]
                    self.assertIs(is_never_put_in(NeverPutIn(guard, symbol, more)), wanted)
                    seen[wanted] += 1
        self.assertGreater(min(seen.values()), 20)

    def test_other_lefts(self):
        guard = Guard(12, [[7]], [[4]], [1], [0])
        for number in range(12):
            wanted = row_by_words(guard, None, 0, (number,)) and row_by_words(guard, None, 1, (number,))
            self.assertIs(is_never_put_in(NeverPutIn(guard, None, ((number,), (number,)))), wanted)
        for value in any_values() + [((3,),), ((3,), (3,), (3,)), ((3,), 3), ((3,), (True,)), ((3,), (3, 0)), ((3,), ()), (3, 3),
                                     ((3,), None)]:
            self.assertIs(is_never_put_in(NeverPutIn(guard, None, value)), False)
        self.assertIs(is_never_put_in(NeverPutIn(guard, None, [[3], [-9 + 12 * 10 ** 38]])), True)

    def test_other_symbols(self):
        guard = Guard(12, [[7]], [[4]], [1], [0])
        for value in any_values() + [3, (3, 0), (12,), (-1,), (True,), "3", ((3,),)]:
            self.assertIs(is_never_put_in(NeverPutIn(guard, value, ((3,), (3,)))), value is None)
        self.assertIs(is_never_put_in(NeverPutIn(guard, (5,), ((3,), (3,)))), True)
        # What a symbol of any number adds counts against a row only where none is told.
        self.assertEqual([is_never_put_in(NeverPutIn(guard, symbol, ((1,), (1,)))) for symbol in (None, (0,), (3,), (1,))],
                         [False, True, True, True])
        self.assertEqual([is_never_put_in(NeverPutIn(guard, symbol, ((2,), (2,)))) for symbol in (None, (0,), (3,), (1,))],
                         [False, False, False, True])

    def test_fields(self):
        block, left = [[1], [2]], [[1], [[2]]]
        put, never = PutIn(plain(10), block, [3]), NeverPutIn(plain(10), [3], left)
        block[0].append(5)
        left[1][0].append(5)
        self.assertEqual((put.block, put.symbol), (((1,), (2,)), (3,)))
        self.assertEqual((never.symbol, never.left), ((3,), ((1,), ((2,),))))
        self.assertEqual((sorted(vars(put)), sorted(vars(never))),
                         (["block", "guard", "symbol"], ["guard", "left", "symbol"]))
        for value in any_values():
            if not isinstance(value, (list, tuple, dict)):
                self.assertIs(PutIn(plain(10), value, 1).block, value)
                self.assertIs(NeverPutIn(plain(10), 1, value).left, value)


if __name__ == "__main__":
    unittest.main()
