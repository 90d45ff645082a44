"""Point 19: symbols that make a wished sum."""

import itertools
import unittest

from guardsums import wishes as module
from guardsums.blocks import Block
from guardsums.errors import BadPlace, BadTold, OtherGuard, TooMany
from guardsums.great import told_changed, told_of
from guardsums.guards import Guard
from guardsums.howell import howell
from guardsums.makers import digits, packed, pair, plain, remainder
from guardsums.values import frozen
from guardsums.wishes import Granted, Vain, count_granted, is_granted, is_vain, wish
from tests.support import (Checks, any_values, chance, no_integers, random_block, random_guard, random_matrix,
                           rows_of, told)

GREAT = 10 ** 30


def block_of(modulus, symbols):
    """The block of these symbols."""
    return Block(modulus, len(symbols[0]), {"A": [(symbol, 1) for symbol in symbols]}, "A")


def with_symbols(symbols, places, others):
    """The symbols with others at these places."""
    symbols = list(symbols)
    for place, symbol in zip(places, others):
        symbols[place] = symbol
    return symbols


def granting(guard, symbols, places, wished):
    """All symbols at these places with which wished is told, by trying all."""
    free = itertools.product(rows_of(guard.modulus, guard.width), repeat=len(places))
    return [others for others in free if told(guard, with_symbols(symbols, places, others)) == wished]


def kernel_by_words(guard, symbols, places):
    """The howell form of all changes at these places that are not seen, by trying all."""
    zeros = [(0,) * guard.width] * len(symbols)
    same = granting(guard, zeros, places, told(guard, zeros))
    return howell(guard.modulus, [sum(others, ()) for others in same], guard.width * len(places))


def vain_by_words(guard, symbols, places, wished, left):
    """Whether left shows that no symbols help, by trying all."""
    def weighed(row):
        return sum(a * b for a, b in zip(left, row)) % guard.modulus
    here = weighed(told(guard, symbols))
    free = itertools.product(rows_of(guard.modulus, guard.width), repeat=len(places))
    return weighed(wished) != here and all(
        weighed(told(guard, with_symbols(symbols, places, others))) == here for others in free)


class Wishes(Checks):
    def check(self, guard, symbols, places, wished):
        """What wish tells, against all symbols at these places."""
        block = block_of(guard.modulus, symbols)
        right = granting(guard, symbols, places, wished)
        answer = wish(guard, block, places, wished)
        self.assertTrue(answer.guard == guard and answer.block == block)
        self.assertEqual((answer.places, answer.wished), (tuple(places), wished))
        self.assertEqual(count_granted(guard, block, places, wished), len(right))
        if right:
            self.assertIs(type(answer), Granted)
            self.assertIn(answer.symbols, right)
            self.assertEqual(answer.kernel, kernel_by_words(guard, symbols, places))
            self.assertIs(is_granted(answer), True)
        else:
            self.assertIs(type(answer), Vain)
            self.assertIs(is_vain(answer), True)
            self.assertTrue(vain_by_words(guard, symbols, places, wished, answer.left))
            self.assertEqual(len(answer.left), guard.size)
        return type(answer)

    def test_interface(self):
        self.defined(module, ("wish", "Granted", "Vain", "count_granted", "is_granted", "is_vain"))

    def test_document(self):
        block = Block(10, 1, {"A": [((1,), GREAT), ((5,), 1)]}, "A")
        granted = wish(plain(10), block, [0], (3,))
        self.assertEqual([granted.symbols, granted.kernel, count_granted(plain(10), block, [0], (3,)),
                          is_granted(granted)], [((9,),), (), 1, True])
        self.assertEqual(wish(Guard(4, [[1]], [[2]], [0], [0]), Block(4, 1, {"A": [((1,), 3)]}, "A"), [0, 1], (1,)).left,
                         (2,))

    def test_all_symbols_of_small_guards(self):
        source, found = chance(1), {Granted: 0, Vain: 0}
        for modulus, size, width, most in ((2, 2, 1, 5), (2, 3, 1, 5), (3, 2, 1, 3), (4, 1, 1, 3), (4, 2, 1, 3), (6, 1, 1, 3),
                                           (6, 2, 1, 2), (2, 2, 2, 3), (4, 2, 2, 1), (2, 4, 3, 2), (12, 1, 1, 2), (9, 2, 1, 2)):
            for _ in range(8):
                guard = random_guard(source, modulus, size, width)
                symbols = random_block(source, modulus, width, source.randrange(1, 7))
                many = source.randrange(1, min(most, len(symbols)) + 1)
                places = source.sample(range(len(symbols)), many)
                for wished in [random_matrix(source, modulus, 1, size)[0] for _ in range(3)] + [told(guard, symbols)]:
                    found[self.check(guard, symbols, places, wished)] += 1
        self.assertGreater(min(found.values()), 40)

    def test_places_at_both_ends_of_great_blocks(self):
        source = chance(2)
        for guard in (pair(65521, 1), packed(remainder(16, 0x1021, 5), 8), digits(97, 10), random_guard(source, 12, 3, 2),
                      random_guard(source, 10 ** 18, 4, 3)):
            rules = {"A": [("B", GREAT), ((1,) * guard.width, 7)], "B": [((0,) * guard.width, 3), ((1,) * guard.width, 5)]}
            block = Block(guard.modulus, guard.width, rules, "A")
            for places in ([0], [block.size - 1], [0, block.size - 1], [1, 0], [GREAT, 0, block.size - 1, GREAT // 7, 5]):
                for wished in random_matrix(source, guard.modulus, 3, guard.size):
                    answer = wish(guard, block, places, wished)
                    if type(answer) is Granted:
                        self.assertIs(is_granted(answer), True)
                        self.assertEqual(told_changed(guard, block, list(zip(places, answer.symbols))), wished)
                        self.assertGreater(count_granted(guard, block, places, wished), 0)
                    else:
                        self.assertIs(is_vain(answer), True)
                        self.assertEqual(count_granted(guard, block, places, wished), 0)
                # What is told as it is can be told.
                kept = wish(guard, block, places, told_of(guard, block))
                self.assertIs(type(kept), Granted)
                self.assertIs(is_granted(kept), True)

    def test_many_places(self):
        source = chance(3)
        for modulus, size, width in ((2, 16, 1), (10 ** 18, 16, 16), (6, 5, 2), (255, 2, 1)):
            guard = random_guard(source, modulus, size, width)
            block = Block(modulus, width, {"A": [((1,) * width, GREAT)]}, "A")
            places = [0, GREAT - 1] + [source.randrange(2, GREAT - 1) for _ in range(14)]
            wished = random_matrix(source, modulus, 1, size)[0]
            answer = wish(guard, block, places, wished)
            self.assertIn(type(answer), (Granted, Vain))
            if type(answer) is Granted:
                self.assertEqual(told_changed(guard, block, list(zip(places, answer.symbols))), wished)
                self.assertIs(is_granted(answer), True)
            if (modulus, size) == (255, 2):
                self.assertEqual(count_granted(guard, block, places, wished), 255 ** 14)

    def test_order_of_places(self):
        guard, block = pair(7), Block(7, 1, {"A": [((3,), 10)]}, "A")
        one, other = wish(guard, block, [2, 8], (1, 5)), wish(guard, block, (8, 2), (1, 5))
        self.assertEqual((one.symbols, one.kernel), (other.symbols[::-1], ()))
        self.assertEqual((one.places, other.places), ((2, 8), (8, 2)))


class Wrong(Checks):
    def setUp(self):
        self.guard, self.block = pair(10), Block(10, 1, {"A": [((1,), 20)]}, "A")

    def calls(self, guard, block, places, wished):
        """The calls that raise the same errors, and what each of them gets as an index or a field."""
        return ((wish, guard, block, places, wished), (count_granted, guard, block, places, wished),
                (is_granted, Granted(guard, block, places, wished, None, None)),
                (is_vain, Vain(guard, block, places, wished, None)))

    def test_other_guard(self):
        for guard in (pair(9), Guard(10, [[1]], [[1, 1]], [0], [0]), Guard(100, [[1]], [[1]], [0], [0])):
            for call in self.calls(guard, self.block, [], None):
                self.raises(OtherGuard, {}, *call)

    def test_how_many_places(self):
        for many in (0, 17, 18, 100):
            for places in ([None] * many, [0] * many, tuple(range(many))):
                for call in self.calls(self.guard, self.block, places, None):
                    self.raises(TooMany, {"what": "places", "many": many, "most": 16}, *call)
        for many in (1, 16):
            self.assertIs(type(wish(self.guard, self.block, list(range(many)), told_of(self.guard, self.block))), Granted)

    def test_places(self):
        for value in no_integers() + [-1, 20, GREAT]:
            for places, index in (([value], 0), ([3, value, None], 1), ([0, 19, value], 2)):
                for call in self.calls(self.guard, self.block, places, None):
                    self.raises(BadPlace, {"place": index}, *call)
        for places, index in (([3, 3], 1), ([0, 1, 2, 1, 0], 3), ([5, 19, 5, None], 2), ([0, False], 1), ([1, True], 1)):
            for call in self.calls(self.guard, self.block, places, None):
                self.raises(BadPlace, {"place": index}, *call)
        empty = Block(10, 1, {"A": []}, "A")
        self.raises(BadPlace, {"place": 0}, wish, self.guard, empty, [0], (0, 0))

    def test_wished(self):
        for value in any_values() + [[0, 0], (0,), (0, 0, 0), (0, 10), (-1, 0), (True, 0), (0, None), "00"]:
            for function in (wish, count_granted):
                self.raises(BadTold, {}, function, self.guard, self.block, [0, 1], value)
            if frozen(value) != (0, 0):
                self.raises(BadTold, {}, is_granted, Granted(self.guard, self.block, [0], value, None, None))
                self.raises(BadTold, {}, is_vain, Vain(self.guard, self.block, [0], value, None))


class Papers(Checks):
    def test_is_granted(self):
        source = chance(4)
        for modulus, size, width, many in ((4, 2, 1, 3), (6, 1, 1, 3), (2, 3, 2, 2), (3, 2, 1, 4)):
            guard = random_guard(source, modulus, size, width)
            symbols = random_block(source, modulus, width, 5)
            block, places = block_of(modulus, symbols), source.sample(range(5), many)
            wished = told(guard, with_symbols(symbols, places, random_block(source, modulus, width, many)))
            answer = wish(guard, block, places, wished)
            for others in itertools.product(rows_of(modulus, width), repeat=many):
                wanted = told(guard, with_symbols(symbols, places, others)) == wished
                self.assertIs(is_granted(Granted(guard, block, places, wished, others, answer.kernel)), wanted)
                self.assertIs(is_granted(Granted(guard, block, places, wished, list(others), list(answer.kernel))), wanted)
            for at, row in enumerate(answer.kernel):
                for place in range(len(row)):
                    for more in (1, -1, modulus):
                        kernel = [list(line) for line in answer.kernel]
                        kernel[at][place] += more
                        self.assertIs(is_granted(Granted(guard, block, places, wished, answer.symbols, kernel)), False)
            for kernel in (answer.kernel + ((0,) * (many * width),), answer.kernel[1:] if answer.kernel else ((1,),),
                           answer.kernel[::-1] if len(answer.kernel) > 1 else None):
                self.assertIs(is_granted(Granted(guard, block, places, wished, answer.symbols, kernel)), False)

    def test_other_values(self):
        guard, block = plain(10), Block(10, 1, {"A": [((1,), 20)]}, "A")
        good = wish(guard, block, [0, 1], (3,))
        self.assertIs(is_granted(good), True)
        for value in any_values() + [((2,),), ((2,), (0,), (0,)), ((1,), (12,)), ((-9,), (2,)), ((1,), (True,)), ((1,), 2),
                                     ((1, 2), ()), (1, 2), "12"]:
            self.assertIs(is_granted(Granted(guard, block, [0, 1], (3,), value, good.kernel)), False)
        for value in any_values() + [((1, 9), (0, 10)), ((11, 9),), ((1, -1),), ((True, 9),), ((1, 9, 0),), ((9, 1),), (1, 9), ((1,),)]:
            self.assertIs(is_granted(Granted(guard, block, [0, 1], (3,), good.symbols, value)), False)
        self.assertEqual(good.kernel, ((1, 9),))
        other = Block(10, 1, {"A": [((1,), 21)]}, "A")
        self.assertIs(is_granted(Granted(guard, other, [0, 1], (3,), good.symbols, good.kernel)), False)
        self.assertIs(is_granted(Granted(guard, block, [0, 1], (4,), good.symbols, good.kernel)), False)

    def test_is_vain(self):
        source, seen = chance(5), {True: 0, False: 0}
        for modulus, size, width, many in ((4, 2, 1, 2), (6, 1, 1, 2), (2, 3, 1, 2), (12, 1, 1, 1), (4, 2, 2, 1)):
            for _ in range(6):
                guard = random_guard(source, modulus, size, width)
                symbols = random_block(source, modulus, width, 4)
                block, places = block_of(modulus, symbols), source.sample(range(4), many)
                wished = random_matrix(source, modulus, 1, size)[0]
                for left in rows_of(modulus, size):
                    wanted = vain_by_words(guard, symbols, places, wished, left)
                    self.assertIs(is_vain(Vain(guard, block, places, wished, left)), wanted)
                    more = [number + modulus * source.randrange(-10 ** 30, 10 ** 30) for number in left]
                    self.assertIs(is_vain(Vain(guard, block, places, wished, more)), wanted)
                    seen[wanted] += 1
        self.assertGreater(min(seen.values()), 15)

    def test_other_lefts(self):
        guard, block = Guard(4, [[1]], [[2]], [0], [0]), Block(4, 1, {"A": [((1,), 3)]}, "A")
        for value in any_values() + [(2, 0), 2, ((2,),), (True,), ("2",), (None,)]:
            self.assertIs(is_vain(Vain(guard, block, [0, 1], (1,), value)), False)
        for value, wanted in (((2,), True), ([2], True), ((-2,), True), ((6 + 4 * 10 ** 38,), True), ((1,), False), ((0,), False)):
            self.assertIs(is_vain(Vain(guard, block, [0, 1], (1,), value)), wanted)
        self.assertIs(is_vain(Vain(guard, block, [0, 1], (2,), (2,))), False)

    def test_fields(self):
        guard, block = plain(10), Block(10, 1, {"A": [((1,), 20)]}, "A")
        places, symbols, kernel = [0, [1]], [[2], (3,)], [[1, 2]]
        granted, vain = Granted(guard, block, places, [3], symbols, kernel), Vain(guard, block, places, [3], kernel)
        places[1].append(4)
        symbols[0].append(4)
        kernel[0].append(4)
        self.assertEqual([granted.places, granted.wished, granted.symbols, granted.kernel],
                         [(0, (1,)), (3,), ((2,), (3,)), ((1, 2),)])
        self.assertEqual([vain.places, vain.wished, vain.left], [(0, (1,)), (3,), ((1, 2),)])
        self.assertTrue(granted.guard is guard and granted.block is block and vain.guard is guard and vain.block is block)
        self.assertEqual((sorted(vars(granted)), sorted(vars(vain))), (
            ["block", "guard", "kernel", "places", "symbols", "wished"], ["block", "guard", "left", "places", "wished"]))


if __name__ == "__main__":
    unittest.main()
