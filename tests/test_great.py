"""Point 12: sums of great blocks."""

import unittest

from guardsums import great
from guardsums.blocks import Block
from guardsums.errors import BadChange, BadPlace, BadSize, OtherGuard
from guardsums.great import told_changed, told_of, told_part, told_turned, told_without
from guardsums.guards import Guard
from guardsums.makers import digits, pair, plain
from guardsums.matrices import applied, power
from tests.support import any_values, chance, random_matrix, random_undoable, told
from tests.test_blocks import name_of, random_rules, spelled

GREAT = 10 ** 30
NO_INTEGERS = [value for value in any_values() if not isinstance(value, int)] + [True, False, 1.0, b"1"]


def random_guard(source, modulus, size, width):
    return Guard(modulus, random_undoable(source, modulus, size), random_matrix(source, modulus, size, width),
                 random_matrix(source, modulus, 1, size)[0], random_matrix(source, modulus, 1, size)[0])


def joined_rules():
    """A block of GREAT times (a, b), then GREAT times c."""
    return {"A": [("B", GREAT), ((3,), GREAT)], "B": [((1,), 1), ((2,), 1)]}


class Great(unittest.TestCase):
    def raises(self, error, fields, call, *arguments):
        with self.assertRaises(error) as caught:
            call(*arguments)
        for name, value in fields.items():
            told = getattr(caught.exception, name)
            self.assertTrue(told is value or (type(told) is type(value) and told == value), (name, told, value))

    def small(self):
        """Guards of all sizes with blocks that can be spelled out."""
        source = chance(1)
        for turn in range(70):
            modulus = source.choice([2, 3, 4, 6, 10, 255, 10 ** 18])
            size, width = source.choice([1, 1, 2, 3, 5, 16]), source.choice([1, 1, 2, 4])
            rules = random_rules(source, modulus, width, 1 + turn % 6)
            for root in list(rules)[:3]:
                symbols = spelled(rules, root)
                if len(symbols) <= 150:
                    guard = random_guard(source, modulus, size, width)
                    yield source, guard, Block(modulus, width, rules, root), symbols


class Document(Great):
    def test_interface(self):
        for name in ("told_of", "told_turned", "told_part", "told_without", "told_changed"):
            self.assertEqual(getattr(great, name).__module__, "guardsums.great")

    def test_examples(self):
        guard, block = pair(7), Block(7, 1, {"A": [((1,), GREAT), ((5,), 1)]}, "A")
        self.assertEqual([told_of(guard, block), told_part(guard, block, GREAT, 1), told_without(guard, block, GREAT, 1)],
                         [(6, 0), (5, 5), (1, 1)])
        self.assertEqual([told_changed(guard, block, [(GREAT, (0,))]), told_turned(guard, block)], [(1, 2), (6, 4)])


class Small(Great):
    def test_whole(self):
        for _, guard, block, symbols in self.small():
            self.assertEqual(told_of(guard, block), told(guard, symbols))
            self.assertEqual(told_turned(guard, block), told(guard, symbols[::-1]))

    def test_stretches(self):
        for source, guard, block, symbols in self.small():
            stretches = [(0, 0), (0, len(symbols)), (len(symbols), 0)]
            for _ in range(4):
                first = source.randrange(len(symbols) + 1)
                stretches.append((first, source.randrange(len(symbols) - first + 1)))
            for first, many in stretches:
                self.assertEqual(told_part(guard, block, first, many), told(guard, symbols[first:first + many]))
                self.assertEqual(told_without(guard, block, first, many),
                                 told(guard, symbols[:first] + symbols[first + many:]))

    def test_all_stretches_of_one_block(self):
        guard = pair(10, 3)
        rules = {"A": [((1,), 2), ("B", 2), ((7,), 1)], "B": [((4,), 1), ("C", 1), ((5,), 2)], "C": [((9,), 1)]}
        block, symbols = Block(10, 1, rules, "A"), spelled(rules, "A")
        for first in range(len(symbols) + 1):
            for many in range(len(symbols) - first + 1):
                self.assertEqual(told_part(guard, block, first, many), told(guard, symbols[first:first + many]))
                self.assertEqual(told_without(guard, block, first, many),
                                 told(guard, symbols[:first] + symbols[first + many:]))

    def test_changes(self):
        for source, guard, block, symbols in self.small():
            for many in (0, 1, len(symbols) // 2, len(symbols)):
                places = source.sample(range(len(symbols)), min(many, len(symbols)))
                changes = [(place, tuple(source.randrange(guard.modulus) for _ in range(guard.width)))
                           for place in places]
                changed = list(symbols)
                for place, symbol in changes:
                    changed[place] = symbol
                wanted = told(guard, changed)
                self.assertEqual(told_changed(guard, block, changes), wanted)
                self.assertEqual(told_changed(guard, block, tuple(changes[::-1])), wanted)

    def test_empty_block(self):
        guard, block = pair(10, 3), Block(10, 1, {"A": [("B", GREAT)], "B": []}, "A")
        for wanted in (told_of(guard, block), told_turned(guard, block), told_part(guard, block, 0, 0),
                       told_without(guard, block, 0, 0), told_changed(guard, block, [])):
            self.assertEqual(wanted, (3, 0))


class Counts(Great):
    def test_by_hand(self):
        block = Block(7, 1, joined_rules(), "A")
        # 3 * 10 ** 30 + 3 * 10 ** 30, and 10 ** 30 leaves 1 modulo 7.
        self.assertEqual(told_of(plain(7), block), (6,))
        self.assertEqual(told_of(plain(10 ** 18), Block(10 ** 18, 1, joined_rules(), "A")), (0,))
        self.assertEqual(told_of(plain(2 ** 50), Block(2 ** 50, 1, joined_rules(), "A")), (6 * GREAT % 2 ** 50,))

    def test_great_against_powers(self):
        # One step for a part of the block is a step of a greater matrix: there a power tells the same.
        source = chance(2)
        for modulus, size in ((2, 3), (10, 2), (255, 4), (10 ** 18, 3)):
            guard = random_guard(source, modulus, size, 1)
            for count in (GREAT, GREAT - 1, 2 ** 99, 10 ** 29 + 7):
                rules = {"A": [("B", count), ((1,), count)], "B": [((modulus - 1,), 3), ("C", count)], "C": [((1,), 2)]}
                state = tuple(guard.start) + (1,)
                inner = self.repeated(guard, self.step(guard, 1), 2)
                inner = self.repeated(guard, inner, count)
                ahead = self.repeated(guard, self.step(guard, modulus - 1), 3)
                state = applied(modulus, self.repeated(guard, self.behind(guard, inner, ahead), count), state)
                state = applied(modulus, self.repeated(guard, self.step(guard, 1), count), state)
                wanted = tuple((number + more) % modulus for number, more in zip(state, guard.end))
                self.assertEqual(told_of(guard, Block(modulus, 1, rules, "A")), wanted)

    def step(self, guard, number):
        rows = [row + (more[0] * number,) for row, more in zip(guard.matrix, guard.columns)]
        return tuple(rows) + ((0,) * guard.size + (1,),)

    def repeated(self, guard, matrix, count):
        return power(guard.modulus, matrix, count)

    def behind(self, guard, matrix, other):
        return tuple(zip(*[applied(guard.modulus, matrix, column) for column in zip(*other)]))

    def test_parts_of_great_blocks(self):
        guard, block = digits(97, 10), Block(97, 1, joined_rules(), "A")
        ones = [(1,), (2,)] * 40
        for first in (0, 2, 10 ** 20, 2 * GREAT - 80):
            self.assertEqual(told_part(guard, block, first, 80), told(guard, ones))
            self.assertEqual(told_part(guard, block, first + 1, 7), told(guard, ones[1:8]))
        self.assertEqual(told_part(guard, block, 2 * GREAT - 2, 5), told(guard, [(1,), (2,), (3,), (3,), (3,)]))
        self.assertEqual(told_part(guard, block, 3 * GREAT - 1, 1), (3,))
        self.assertEqual(told_part(guard, block, 3 * GREAT, 0), (0,))
        self.assertEqual(told_part(guard, block, 0, 3 * GREAT), told_of(guard, block))
        self.assertEqual(told_without(guard, block, 3 * GREAT, 0), told_of(guard, block))
        self.assertEqual(told_without(guard, block, 0, 3 * GREAT), (0,))
        self.assertEqual(told_without(guard, block, 3, 3 * GREAT - 6), told(guard, [(1,), (2,), (1,), (3,), (3,), (3,)]))

    def test_parts_joined_tell_the_whole(self):
        source = chance(3)
        rules = {"A": [("B", GREAT), ((3,), 7), ("C", 5)], "B": [((1,), 1), ("C", GREAT)], "C": [((2,), GREAT - 1)]}
        for guard in (pair(255, 1), random_guard(source, 10 ** 18, 3, 1), random_guard(source, 2, 16, 1)):
            block = Block(guard.modulus, 1, {name: [(part if isinstance(part, str) else (part[0] % guard.modulus,), count)
                                                    for part, count in rules[name]] for name in rules}, "A")
            whole = told_of(guard, block)
            for _ in range(5):
                first = source.randrange(block.size)
                many = source.randrange(block.size - first)
                left = self.state_of(guard, told_part(guard, block, 0, first))
                middle = Guard(guard.modulus, guard.matrix, guard.columns, left, guard.end)
                left = self.state_of(guard, told_part(middle, block, first, many))
                right = Guard(guard.modulus, guard.matrix, guard.columns, left, guard.end)
                self.assertEqual(told_part(right, block, first + many, block.size - first - many), whole)
                left = self.state_of(guard, told_part(guard, block, 0, first))
                right = Guard(guard.modulus, guard.matrix, guard.columns, left, guard.end)
                self.assertEqual(told_part(right, block, first + many, block.size - first - many),
                                 told_without(guard, block, first, many))

    def state_of(self, guard, told):
        return tuple((number - less) % guard.modulus for number, less in zip(told, guard.end))

    def test_changes_of_great_blocks(self):
        for guard in (pair(7), digits(7, 3), random_guard(chance(4), 7, 5, 1)):
            block = Block(7, 1, joined_rules(), "A")
            other = {"A": [("B", 10 ** 20), ((6,), 1), ((2,), 1), ("B", GREAT - 10 ** 20 - 1), ((3,), 5), ((0,), 1),
                           ((3,), GREAT - 7), ((4,), 1)], "B": [((1,), 1), ((2,), 1)]}
            changes = [(3 * GREAT - 1, (4,)), (2 * 10 ** 20, (6,)), (2 * GREAT + 5, (0,))]
            self.assertEqual(told_changed(guard, block, changes), told_of(guard, Block(7, 1, other, "A")))
            self.assertEqual(told_changed(guard, block, []), told_of(guard, block))
            self.assertEqual(told_changed(guard, block, [(0, (1,)), (1, (2,))]), told_of(guard, block))

    def test_back_to_front(self):
        guard = random_guard(chance(5), 255, 3, 1)
        other = {"A": [((3,), GREAT), ("B", GREAT)], "B": [((2,), 1), ((1,), 1)]}
        self.assertEqual(told_turned(guard, Block(255, 1, joined_rules(), "A")), told_of(guard, Block(255, 1, other, "A")))

    def test_any_depth(self):
        names = [name_of(number) for number in range(300)]
        for count in (2, GREAT):
            rules = {names[0]: [((1,), 1)]}
            for one, other in zip(names, names[1:]):
                rules[other] = [(one, count)]
            block = Block(1009, 1, rules, names[-1])
            size = count ** 299
            self.assertEqual(block.size, size)
            self.assertEqual(told_of(plain(1009), block), (size % 1009,))
            self.assertEqual(told_of(pair(1009), block), (size % 1009, size * (size + 1) // 2 % 1009))
            first = size // 3
            self.assertEqual(told_part(plain(1009), block, first, size // 2), (size // 2 % 1009,))
            self.assertEqual(told_without(pair(1009), block, 1, size - 2), (2, 3))
            self.assertEqual(told_changed(plain(1009), block, [(first, (0,)), (size - 1, (5,))]), ((size + 3) % 1009,))

    def test_greatest_lists(self):
        source = chance(6)
        rules = {}
        for number in range(300):
            rules[name_of(number)] = [(name_of(source.randrange(number)) if number and at % 8 == 0 else
                                       (source.randrange(5),), source.choice([1, 2, GREAT])) for at in range(40)]
        block = Block(5, 1, rules, name_of(299))
        # A plain sum of each name, by hand.
        sums = {}
        for name in sorted(rules):
            sums[name] = sum(count * (sums[part] if isinstance(part, str) else part[0]) for part, count in rules[name])
        self.assertEqual(told_of(plain(5), block), (sums[name_of(299)] % 5,))

    def test_sixteen_numbers(self):
        source = chance(7)
        guard = random_guard(source, 10 ** 18, 16, 16)
        one, other = random_matrix(source, 10 ** 18, 2, 16)
        block = Block(10 ** 18, 16, {"A": [("B", 3), (one, 2)], "B": [(other, 2), (one, 1)]}, "A")
        self.assertEqual(told_of(guard, block), told(guard, [other, other, one] * 3 + [one, one]))
        self.assertEqual(told_turned(guard, block), told(guard, [one, one] + [one, other, other] * 3))
        self.assertEqual(told_changed(guard, block, [(10, other)]), told(guard, [other, other, one] * 3 + [one, other]))


class Wrong(Great):
    def calls(self):
        return [(told_of, ()), (told_turned, ()), (told_part, (None, None)), (told_without, (None, None)),
                (told_changed, ([None],))]

    def test_other_guard(self):
        block = Block(7, 2, {"A": [((1, 2), 3)]}, "A")
        for guard in (pair(7), Guard(5, [[1]], [[1, 2]], [0], [0]), Guard(7, [[1]], [[1, 2, 3]], [0], [0]), plain(14)):
            for call, more in self.calls():
                self.raises(OtherGuard, {}, call, guard, block, *more)
        self.assertEqual(told_of(Guard(7, [[1]], [[1, 2]], [0], [0]), block), (1,))

    def test_first(self):
        block = Block(7, 1, {"A": [((1,), 3)]}, "A")
        for call in (told_part, told_without):
            for value in NO_INTEGERS + [-1, 4, GREAT]:
                self.raises(BadPlace, {"place": value}, call, pair(7), block, value, None)

    def test_many(self):
        block = Block(7, 1, {"A": [((1,), 3)]}, "A")
        for call in (told_part, told_without):
            for first in range(4):
                for value in NO_INTEGERS + [-1, 4 - first, GREAT]:
                    self.raises(BadSize, {"size": value}, call, pair(7), block, first, value)
                self.assertEqual(len(call(pair(7), block, first, 3 - first)), 2)

    def test_changes(self):
        block = Block(7, 2, {"A": [((1, 2), 3)]}, "A")
        guard = Guard(7, [[3]], [[1, 2]], [0], [0])
        symbol = (0, 6)
        wrong = any_values() + [[0, symbol], (0,), (0, symbol, 1), (3, symbol), (-1, symbol), (GREAT, symbol),
                                (True, symbol), (None, symbol), ("0", symbol), ((), symbol), ([0], symbol),
                                (0, [0, 6]), (0, (0,)), (0, (0, 6, 1)), (0, (0, 7)), (0, (-1, 0)), (0, (True, 0)),
                                (0, None), (0, 6), (2, symbol), (1, symbol)]
        for value in wrong:
            self.raises(BadChange, {"index": 2}, told_changed, guard, block, [(2, symbol), (1, symbol), value, None])
        for value in wrong[:-2]:
            self.raises(BadChange, {"index": 0}, told_changed, guard, block, [value, None])
        self.raises(BadChange, {"index": 0}, told_changed, guard, Block(7, 2, {"A": []}, "A"), [(0, symbol)])

    def test_many_changes(self):
        block = Block(97, 1, {"A": [((1,), GREAT)]}, "A")
        changes = [(place * 10 ** 26 + 3, (5,)) for place in range(1000)]
        self.assertEqual(told_changed(plain(97), block, changes), ((GREAT + 4000) % 97,))
        wanted = pow(10, GREAT, 97) - 1
        wanted = wanted * pow(9, -1, 97) + sum(4 * pow(10, GREAT - 1 - place, 97) for place, _ in changes)
        self.assertEqual(told_changed(digits(97, 10), block, changes), (wanted % 97,))

    def test_arguments_are_as_before(self):
        guard, block = pair(7), Block(7, 1, joined_rules(), "A")
        changes = [(5, (3,)), (GREAT, (1,))]
        calls = [(told_of, ()), (told_turned, ()), (told_part, (5, GREAT)), (told_without, (5, GREAT)),
                 (told_changed, (changes,))]
        first = [call(guard, block, *more) for call, more in calls]
        self.assertEqual([call(guard, block, *more) for call, more in calls], first)
        self.assertTrue(guard == pair(7) and block == Block(7, 1, joined_rules(), "A"))
        self.assertEqual(changes, [(5, (3,)), (GREAT, (1,))])


if __name__ == "__main__":
    unittest.main()
