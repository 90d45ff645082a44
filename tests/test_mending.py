"""Point 16: rules that mend sums."""

import itertools
import unittest

from guardsums import mending as module
from guardsums.alike import plain_told
from guardsums.errors import BadMending, OtherForm
from guardsums.guards import Guard
from guardsums.makers import behind_zeros, digits, packed, pair, plain, remainder
from guardsums.matrices import applied, identity, power, undone
from guardsums.mending import (Change, Cut, Fails, Fits, Join, changed, cut, is_fails, is_fits, joined, judge_rule,
                               right_change, right_cut, right_join)
from tests.support import (Checks, all_blocks, any_values, chance, no_integers, random_block, random_guard,
                           random_matrix, random_undoable, rows_of, spelled, times, told)

GREAT = 10 ** 30


def moved(guard, matrix, many, row):
    """The matrix, so many times, times a row."""
    for _ in range(many):
        row = applied(guard.modulus, matrix, row)
    return row


def right(guard, rule, u, v):
    """Whether a Join or a Cut is right for two blocks, by the words of the document."""
    both, first, second, modulus = told(guard, u + v), told(guard, u), told(guard, v), guard.modulus
    if type(rule) is Join:
        ahead = moved(guard, rule.power, len(v), tuple(a + b for a, b in zip(first, rule.before)))
        return both == tuple((a + b + c) % modulus for a, b, c in zip(ahead, second, rule.after))
    ahead = moved(guard, rule.power, len(v), tuple(a - b for a, b in zip(both, second)))
    return first == tuple((a + b) % modulus for a, b in zip(ahead, rule.after))


def right_behind(guard, rule, block, place, symbol):
    """Whether a Change is right for a block in which another symbol is put at a place."""
    other = list(block)
    other[place] = symbol
    difference = tuple(a - b for a, b in zip(symbol, block[place]))
    added = moved(guard, rule.power, len(block) - 1 - place, applied(guard.modulus, rule.columns, difference))
    return told(guard, other) == tuple((a + b) % guard.modulus for a, b in zip(told(guard, block), added))


def fewest(guard, rule, most):
    """The fewest symbols of two blocks for which a Join or a Cut is wrong, up to most of them; None if there are none."""
    for many in range(most + 1):
        for length in range(many + 1):
            for u in all_blocks(guard, length):
                for v in all_blocks(guard, many - length):
                    if not right(guard, rule, list(u), list(v)):
                        return many
    return None


def nearly(source, guard, rule):
    """The rule with one number otherwise, or as it is."""
    parts = {name: [list(row) if isinstance(row, tuple) else row for row in value] for name, value in vars(rule).items()}
    name = source.choice(sorted(parts))
    row = source.randrange(len(parts[name]))
    more = source.choice([0, 1, -1, guard.modulus, 10 ** 39, source.randrange(guard.modulus)])
    if isinstance(parts[name][row], list):
        parts[name][row][source.randrange(len(parts[name][row]))] += more
    else:
        parts[name][row] += more
    return type(rule)(**parts)


class Rules(Checks):
    def test_interface(self):
        self.defined(module, ("Join", "Change", "Cut", "joined", "changed", "cut", "right_join", "right_change",
                              "right_cut", "judge_rule", "Fits", "Fails", "is_fits", "is_fails"))

    def test_document(self):
        guard = Guard(12, [[5]], [[1]], [3], [2])
        rule = right_join(guard)
        self.assertEqual([guard.told([(1,)]), guard.told([(1,), (1,)]), joined(guard, rule, (6,), (6,), 1), rule.before],
                         [(6,), (11,), (11,), (7,)])
        answer = judge_rule(guard, Join([[5]], [-2], [0]))
        self.assertEqual([answer.block, answer.length, type(judge_rule(guard, Cut([[5]], [5]))).__name__,
                          cut(guard, Cut([[5]], [5]), (11,), (6,), 1)], [(0, None, None), 0, "Fits", (6,)])
        self.assertEqual(judge_rule(guard, Change([[1]], [[1]])).block, (2, 1, 0))

    def test_fields(self):
        power_rows, before, after = [[1, -2], (10 ** 39, 4)], [5, -6], (7, 8)
        rules = [Join(power_rows, before, after), Change(power_rows, [before, [1, 2]]), Cut(tuple(power_rows), before)]
        power_rows[0][0], before[1] = 9, 9
        self.assertEqual([vars(rule) for rule in rules], [
            {"power": ((1, -2), (10 ** 39, 4)), "before": (5, -6), "after": (7, 8)},
            {"power": ((1, -2), (10 ** 39, 4)), "columns": ((5, -6), (1, 2))},
            {"power": ((1, -2), (10 ** 39, 4)), "after": (5, -6)}])
        self.assertEqual(Change([[1]], [[1, 2, 3]]).columns, ((1, 2, 3),))

    def test_wrong_power(self):
        for value in any_values() + [[[1, 0], [0]], [[1, 0], [0, True]], [[1, 0], [0, None]], [[1], [0]], [[1, 0]], [[]],
                                     [[1, 0], [0, 1], [0, 0]], [[1, 0], "01"], [[1] * 17] * 17, [1, 0], [[1, 0], {0: 1}]]:
            self.raises(BadMending, {}, Join, value, [0, 0], [0, 0])
            self.raises(BadMending, {}, Change, value, [[0], [0]])
            self.raises(BadMending, {}, Cut, value, [0, 0])
        for size in (1, 16):
            rows, zeros = [list(row) for row in identity(size)], [0] * size
            for rule in (Join(rows, zeros, zeros), Change(rows, [[0]] * size), Cut(rows, zeros)):
                self.assertEqual(rule.power, identity(size))
        self.raises(BadMending, {}, Cut, identity(17), [0] * 17)

    def test_wrong_rows(self):
        rows = [[1, 0], [0, 1]]
        for value in any_values() + [[0], [0, 0, 0], [0, None], [True, 0], [0, "0"], [[0], 0], {0: 0, 1: 0}, "00", 0]:
            self.raises(BadMending, {}, Join, rows, value, [0, 0])
            self.raises(BadMending, {}, Join, rows, [0, 0], value)
            self.raises(BadMending, {}, Cut, rows, value)

    def test_wrong_columns(self):
        rows = [[1, 0], [0, 1]]
        for value in any_values() + [[[1]], [[1], [1], [1]], [[], []], [[1], [1, 1]], [[1, 1], [1]], [[1], [None]], [[1], 1],
                                     [1, [1]], [[False], [1]], [[1] * 17] * 2, [[1], {0: 1}], ["1", "1"]]:
            self.raises(BadMending, {}, Change, rows, value)
        self.assertEqual(Change(rows, [[1] * 16] * 2).columns, ((1,) * 16,) * 2)

    def test_other_form(self):
        one, two = plain(7), pair(7)
        rules = {1: [Join([[1]], [0], [0]), Change([[1]], [[1]]), Cut([[1]], [0])],
                 2: [Join(identity(2), [0, 0], [0, 0]), Change(identity(2), [[1], [1]]), Cut(identity(2), [0, 0])]}
        wide = [(one, Change([[1]], [[1, 1]])), (packed(one, 2), rules[1][1])]
        for guard, rule in [(one, rule) for rule in rules[2]] + [(two, rule) for rule in rules[1]] + wide:
            self.raises(OtherForm, {}, judge_rule, guard, rule)
            self.raises(OtherForm, {}, is_fits, Fits(guard, rule))
            self.raises(OtherForm, {}, is_fails, Fails(guard, rule, None, None))
            row = (0,) * guard.size
            if type(rule) is Join:
                self.raises(OtherForm, {}, joined, guard, rule, row, row, 3)
            elif type(rule) is Cut:
                self.raises(OtherForm, {}, cut, guard, rule, row, row, 3)
            else:
                self.raises(OtherForm, {}, changed, guard, rule, row, 3, (0,) * guard.width, (1,) * guard.width)
        for guard, rule in [(packed(one, 2), rules[1][0]), (packed(one, 2), rules[1][2])]:
            self.assertIs(type(judge_rule(guard, rule)), Fits)


class Mended(Checks):
    def test_rules_that_are_right(self):
        source = chance(1)
        for modulus, size, width in ((2, 3, 1), (12, 2, 2), (255, 2, 1), (10 ** 18, 3, 3), (7, 1, 1)):
            for _ in range(6):
                guard = random_guard(source, modulus, size, width)
                join, change, takes = right_join(guard), right_change(guard), right_cut(guard)
                self.assertEqual((join.power, join.after, change.power, change.columns, takes.power), (
                    guard.matrix, (0,) * size, guard.matrix, guard.columns, undone(modulus, guard.matrix)))
                self.assertEqual(takes.after, tuple((a + b) % modulus for a, b in zip(guard.start, guard.end)))
                self.assertEqual(join.before, tuple(-number % modulus for number in takes.after))
                for first, second in ((0, 0), (0, 3), (2, 0), (3, 5)):
                    u, v = random_block(source, modulus, width, first), random_block(source, modulus, width, second)
                    sums = told(guard, u), told(guard, v), told(guard, u + v)
                    self.assertEqual(joined(guard, join, sums[0], list(sums[1]), second), sums[2])
                    self.assertEqual(cut(guard, takes, list(sums[2]), sums[1], second), sums[0])
                    for place in range(first):
                        symbol = random_block(source, modulus, width, 1)[0]
                        other = u[:place] + [symbol] + u[place + 1:]
                        self.assertEqual(changed(guard, change, sums[0], first - 1 - place, u[place], symbol),
                                         told(guard, other))

    def test_any_rules(self):
        source = chance(2)
        for modulus, size, width in ((6, 2, 1), (10 ** 18, 2, 2), (2, 1, 1)):
            for _ in range(20):
                guard = random_guard(source, modulus, size, width)
                rows = [[source.randrange(-10 ** 20, 10 ** 20) for _ in range(size)] for _ in range(size)]
                before, after, first, second = [[source.randrange(-10 ** 20, 10 ** 20) for _ in range(size)]
                                                for _ in range(4)]
                length = source.randrange(6)
                ahead = moved(guard, rows, length, [a + b for a, b in zip(first, before)])
                self.assertEqual(joined(guard, Join(rows, before, after), first, second, length),
                                 tuple((a + b + c) % modulus for a, b, c in zip(ahead, second, after)))
                ahead = moved(guard, rows, length, [a - b for a, b in zip(first, second)])
                self.assertEqual(cut(guard, Cut(rows, after), first, second, length),
                                 tuple((a + b) % modulus for a, b in zip(ahead, after)))
                columns = [[source.randrange(-10 ** 20, 10 ** 20) for _ in range(width)] for _ in range(size)]
                old, new = random_block(source, modulus, width, 2)
                ahead = moved(guard, rows, length, applied(modulus, columns, [b - a for a, b in zip(old, new)]))
                self.assertEqual(changed(guard, Change(rows, columns), first, length, old, new),
                                 tuple((a + b) % modulus for a, b in zip(ahead, first)))

    def test_great_lengths(self):
        guard = pair(65521, 1)
        join, takes, change = right_join(guard), right_cut(guard), right_change(guard)
        for length in (GREAT, 10 ** 40 - 1):
            u, v, both = [plain_told(guard, block) for block in (
                (5, 3, 0), (length, None, None), (length + 5, length + 3, 0))]
            self.assertEqual(joined(guard, join, u, v, length), both)
            self.assertEqual(cut(guard, takes, both, v, length), u)
            self.assertEqual(changed(guard, change, v, length - 1, (0,), (1,)), plain_told(guard, (length, length - 1, 0)))
            self.assertEqual(changed(guard, change, plain_told(guard, (length, 7, 0)), 7, (1,), (0,)), v)
        # What cannot be undone may be a rule as well.
        self.assertEqual(joined(guard, Join([[0, 0], [0, 0]], [3, 4], [1, 2]), (5, 6), (7, 8), GREAT), (8, 10))
        self.assertEqual(joined(guard, Join([[0, 0], [0, 0]], [3, 4], [1, 2]), (5, 6), (7, 8), 0), (16, 20))


class Judged(Checks):
    def check(self, guard, rule, most):
        """A Join or a Cut, held against all blocks up to so many symbols."""
        answer = judge_rule(guard, rule)
        self.assertTrue(answer.guard == guard)
        self.assertIs(answer.rule, rule)
        wanted = fewest(guard, rule, most)
        if type(answer) is Fits:
            self.assertIsNone(wanted)
            self.assertIs(is_fits(answer), True)
            return None
        self.assertIs(type(answer), Fails)
        self.assertIs(is_fails(answer), True)
        self.assertIs(is_fits(Fits(guard, rule)), False)
        many = answer.block[0] + answer.length
        self.assertEqual(wanted, many if many <= most else None)
        zeros = [(0,) * guard.width] * answer.length
        self.assertFalse(right(guard, rule, spelled(answer.block, guard.width), zeros))
        return many

    def test_all_rules_of_one_number(self):
        for modulus in (2, 3, 4):
            numbers = range(modulus)
            guards = [Guard(modulus, [[a]], [[b]], [c], [d]) for a in numbers for b in numbers for c in numbers
                      for d in (0, 1) if undone(modulus, ((a,),)) is not None]
            for guard in guards:
                for one, other, third in itertools.product(numbers, repeat=3):
                    self.check(guard, Join([[one]], [other], [third]), 4 if modulus == 2 else 3)
                for one, other in itertools.product(numbers, repeat=2):
                    self.check(guard, Cut([[one]], [other]), 4 if modulus == 2 else 3)

    def test_all_joins_and_cuts_of_two_bits(self):
        source, found = chance(3), {}
        for _ in range(12):
            guard = random_guard(source, 2, 2, 1)
            ends = right_cut(guard).after
            rows = rows_of(2, 2)
            for first, second in itertools.product(rows, repeat=2):
                rule = Cut([first, second], ends)
                found[self.check(guard, rule, 5)] = True
                for after in rows:
                    before = [-a - b for a, b in zip(after, ends)]
                    found[self.check(guard, Join([first, second], before, after), 5)] = True
        self.assertLessEqual({None, 1, 2}, set(found))

    def test_random(self):
        source, found = chance(4), {}
        cases = ((2, 2, 1, 6), (2, 3, 1, 6), (3, 2, 1, 5), (4, 2, 1, 4), (6, 1, 1, 4), (2, 2, 2, 4), (4, 1, 1, 5), (2, 4, 1, 7))
        for modulus, size, width, most in cases:
            for turn in range(12):
                guard = random_guard(source, modulus, size, width)
                if turn % 3 == 0:
                    columns = [[0] * width for _ in range(size)]
                    guard = Guard(modulus, guard.matrix, columns, guard.start, guard.end)
                for rule in (right_join(guard), right_cut(guard)):
                    self.check(guard, rule, most if turn == 0 else 0)
                    many = self.check(guard, nearly(source, guard, rule), min(most, 5))
                    found[many] = found.get(many, 0) + 1
        self.assertGreater(min(found[None], found[0], found[2]), 5)

    def test_wrong_late(self):
        # A register of five bits that a 1 enters at one end: a rule that errs at the other end errs late.
        size = 5
        rows = [[int(at == row - 1) for at in range(size)] for row in range(size)]
        rows[0][size - 1] = 1
        guard = Guard(2, rows, [[1]] + [[0]] * (size - 1), [0] * size, [0] * size)
        for place in range(size):
            bad = [list(row) for row in rows]
            bad[2][place] ^= 1
            answer = judge_rule(guard, Join(bad, [0] * size, [0] * size))
            self.assertEqual((answer.block, answer.length), ((place + 1, place, 0), 1))
            self.assertEqual(self.check(guard, answer.rule, 7), place + 2)
            back = [list(row) for row in right_cut(guard).power]
            back[1][place] ^= 1
            answer = judge_rule(guard, Cut(back, [0] * size))
            self.assertIs(is_fails(answer), True)
            self.assertEqual(self.check(guard, answer.rule, 7), answer.block[0] + 1)
            change = judge_rule(guard, Change(bad, guard.columns))
            self.assertEqual((change.block, change.length), ((place + 2, place + 1, 0), 0))
        # Zeros alone, behind so many turns: the start moves, the columns are 0.
        still = Guard(2, rows, [[0]] * size, [0, 1, 0, 0, 0], [0] * size)
        for place in range(size):
            bad = [list(row) for row in rows]
            bad[2][place] ^= 1
            self.check(still, Join(bad, right_join(still).before, [0] * size), 7)

    def test_changes(self):
        source = chance(5)
        kinds = {Fits: 0, Fails: 0}
        for modulus, size, width in ((2, 2, 1), (2, 3, 1), (3, 2, 1), (4, 1, 1), (6, 2, 1), (2, 2, 2), (2, 3, 3)):
            for _ in range(30):
                guard = random_guard(source, modulus, size, width)
                rule = nearly(source, guard, right_change(guard))
                if source.randrange(2):
                    rule = nearly(source, guard, rule)
                answer = judge_rule(guard, rule)
                kinds[type(answer)] += 1
                least = None
                for distance in range(2 * size + 3):
                    block = [(0,) * width] * (distance + 1)
                    wrong = [not right_behind(guard, rule, block, 0, symbol) for symbol in rows_of(modulus, width)]
                    if any(wrong):
                        least = distance
                        break
                if type(answer) is Fits:
                    self.assertIsNone(least)
                    self.assertIs(is_fits(answer), True)
                    block = random_block(source, modulus, width, 9)
                    for place in range(9):
                        self.assertTrue(right_behind(guard, rule, block, place, random_block(source, modulus, width, 1)[0]))
                else:
                    self.assertEqual((answer.block[0], answer.block[1], answer.length), (least + 1, least, 0))
                    self.assertIs(is_fails(answer), True)
                    unit = tuple(int(at == answer.block[2]) for at in range(width))
                    self.assertFalse(right_behind(guard, rule, [(0,) * width] * (least + 1), 0, unit))
        self.assertGreater(min(kinds.values()), 20)

    def test_late_changes(self):
        # Both agree up to a distance of 2 k - 1 at most.
        latest = 0
        for factors in itertools.product(range(2), repeat=2):
            for others in itertools.product(range(2), repeat=2):
                guard = Guard(2, [[0, 1], [1, factors[1]]], [[1], [0]], [0, 0], [0, 0])
                answer = judge_rule(guard, Change([[0, 1], [others[0], others[1]]], [[1], [0]]))
                if type(answer) is Fails:
                    latest = max(latest, answer.block[1])
        self.assertGreaterEqual(latest, 2)

    def test_known_sums(self):
        for guard in (remainder(16, 0x8005, 65535, 3), pair(65521, 1), digits(97, 10), packed(remainder(8, 7), 8),
                      behind_zeros(pair(255), 10 ** 29), Guard(10 ** 18, identity(16), [[1] * 16] * 16, [3] * 16, [4] * 16)):
            for rule in (right_join(guard), right_change(guard), right_cut(guard)):
                self.assertIs(type(judge_rule(guard, rule)), Fits)
                self.assertIs(is_fits(judge_rule(guard, rule)), True)
        # Without start and end in it the rule is wrong for two empty blocks already.
        guard = pair(65521, 1)
        answer = judge_rule(guard, Join(guard.matrix, (0, 0), (0, 0)))
        self.assertEqual((answer.block, answer.length), ((0, None, None), 0))
        # All that is needed of what comes behind one number may be put behind or ahead.
        self.assertIs(type(judge_rule(guard, Join(guard.matrix, (0, 65520), (-1, 1)))), Fails)
        self.assertIs(type(judge_rule(plain(10), Join([[1]], [3], [-3]))), Fits)
        self.assertIs(type(judge_rule(plain(10), Join([[11]], [13], [-10 ** 39 - 3]))), Fits)

    def test_numbers_below_and_above(self):
        source = chance(6)
        for _ in range(20):
            guard = random_guard(source, 12, 2, 2)
            for rule in (right_join(guard), right_cut(guard), right_change(guard)):
                parts = {name: [[number + 12 * source.randrange(-10 ** 30, 10 ** 30) for number in row]
                                if isinstance(row, tuple) else row - 12 * 10 ** 30 for row in value]
                         for name, value in vars(rule).items()}
                self.assertIs(type(judge_rule(guard, type(rule)(**parts))), Fits)


class Papers(Checks):
    def setUp(self):
        self.guard = Guard(12, [[5]], [[1]], [3], [2])
        self.join, self.cut, self.change = (right_join(self.guard), right_cut(self.guard), right_change(self.guard))

    def test_is_fits(self):
        for rule in (self.join, self.cut, self.change):
            self.assertIs(is_fits(Fits(self.guard, rule)), True)
            self.assertIs(is_fits(Fits(Guard(12, [[5]], [[1]], [3], [2]), rule)), True)
            self.assertIs(is_fits(Fits(Guard(12, [[7]], [[1]], [3], [2]), rule)), False)
        # Modulo 24 the end is another one to be taken off; 5 undoes itself there, too.
        self.assertEqual([is_fits(Fits(Guard(24, [[5]], [[1]], [3], [2]), rule))
                          for rule in (self.join, self.cut, self.change)], [False, True, True])
        for other in (Guard(12, [[5]], [[1]], [3], [3]), Guard(12, [[5]], [[1]], [4], [2])):
            self.assertEqual([is_fits(Fits(other, rule)) for rule in (self.join, self.cut, self.change)],
                             [False, False, True])
        for other in (Join([[5]], [7], [1]), Join([[5]], [8], [0]), Join([[1]], [7], [0]), Cut([[5]], [6]), Cut([[7]], [5]),
                      Change([[5]], [[2]]), Change([[1]], [[1]])):
            self.assertIs(is_fits(Fits(self.guard, other)), False)

    def test_is_fails(self):
        for rule in (Join([[5]], [8], [11]), Join([[5]], [8], [0]), Join([[7]], [7], [0]), Cut([[7]], [5]), Cut([[5]], [6])):
            for length, size in itertools.product(range(4), repeat=2):
                for distance in [None] + list(range(size)):
                    block = (size, distance, None if distance is None else 0)
                    wanted = not right(self.guard, rule, spelled(block, 1), [(0,)] * length)
                    self.assertIs(is_fails(Fails(self.guard, rule, block, length)), wanted)
                    self.assertIs(is_fails(Fails(self.guard, rule, list(block), length)), wanted)
        for rule in (Change([[7]], [[1]]), Change([[5]], [[2]]), Change([[5]], [[7]]), Change([[11]], [[1]])):
            for distance in range(5):
                wanted = not right_behind(self.guard, rule, [(0,)] * (distance + 1), 0, (1,))
                self.assertIs(is_fails(Fails(self.guard, rule, (distance + 1, distance, 0), 0)), wanted)
        for rule in (self.join, self.cut, self.change):
            self.assertIs(is_fails(Fails(self.guard, rule, (3, 2, 0), 0)), False)

    def test_great_cases(self):
        rule = Join([[7]], [7], [0])
        for length, size in ((GREAT, GREAT), (GREAT, 0), (1, GREAT), (10 ** 40 - 1, 10 ** 40 - 1)):
            for block in ((size, None, None), (size + 2, size, 0)):
                u = plain_told(self.guard, block)
                v = plain_told(self.guard, (length, None, None))
                both = (block[0] + length, None if block[1] is None else block[1] + length, block[2])
                wanted = plain_told(self.guard, both) != joined(self.guard, rule, u, v, length)
                self.assertIs(is_fails(Fails(self.guard, rule, block, length)), wanted)
        # 5 and 7 are both 1 behind an even number of turns: the distance tells.
        change = Change([[7]], [[1]])
        self.assertIs(is_fails(Fails(self.guard, change, (GREAT + 1, GREAT, 0), 0)), False)
        self.assertIs(is_fails(Fails(self.guard, change, (GREAT, GREAT - 1, 0), 0)), True)

    def test_other_values(self):
        rule = Join([[7]], [7], [0])
        good = judge_rule(self.guard, rule)
        self.assertIs(is_fails(good), True)
        for value in any_values() + [(1, 0), (1, 1, 0), (1, 0, 1), (1, 0, None), (1, None, 0), (-1, None, None), (1, -1, 0),
                                     (True, None, None), (1, False, 0), (1, 0, False), "abc", ((1, 0, 0),)]:
            self.assertIs(is_fails(Fails(self.guard, rule, value, good.length)), False)
        for value in no_integers() + [-1, -GREAT]:
            self.assertIs(is_fails(Fails(self.guard, rule, good.block, value)), False)

    def test_other_cases_of_a_change(self):
        rule = Change([[5]], [[2]])
        self.assertIs(is_fails(Fails(self.guard, rule, (1, 0, 0), 0)), True)
        self.assertIs(is_fails(Fails(self.guard, rule, [4, 3, 0], 0)), True)
        for block in ((2, 0, 0), (4, 2, 0), (0, None, None), (1, None, None), (3, None, None), (1, 0, 1)):
            self.assertIs(is_fails(Fails(self.guard, rule, block, 0)), False)
        for length in no_integers() + [1, 2, -1]:
            self.assertIs(is_fails(Fails(self.guard, rule, (1, 0, 0), length)), False)

    def test_numbers_of_wide_symbols(self):
        guard = Guard(9, [[4]], [[1, 2, 0]], [0], [0])
        rule = Change([[4]], [[1, 5, 0]])
        self.assertEqual(judge_rule(guard, rule).block, (1, 0, 1))
        for number, wanted in ((0, False), (1, True), (2, False), (3, False)):
            self.assertIs(is_fails(Fails(guard, rule, (3, 2, number), 0)), wanted)

    def test_fields(self):
        block = [1, [0], 0]
        fails = Fails(self.guard, self.join, block, [1])
        block[1].append(2)
        self.assertEqual(vars(fails), {"guard": self.guard, "rule": self.join, "block": (1, (0,), 0), "length": (1,)})
        self.assertEqual(vars(Fits(self.guard, self.join)), {"guard": self.guard, "rule": self.join})
        for value in any_values():
            if not isinstance(value, (list, tuple, dict)):
                self.assertIs(Fails(self.guard, self.join, value, 0).block, value)
                self.assertIs(Fails(self.guard, self.join, 0, value).length, value)

    def test_equal_calls(self):
        source = chance(7)
        for _ in range(20):
            guard = random_guard(source, 6, 2, 2)
            for rule in (right_join(guard), right_cut(guard), right_change(guard)):
                bad = nearly(source, guard, rule)
                parts = {name: [list(row) if isinstance(row, tuple) else row for row in value]
                         for name, value in vars(bad).items()}
                one, other = judge_rule(guard, bad), judge_rule(guard, type(bad)(**parts))
                self.assertIs(type(one), type(other))
                if type(one) is Fails:
                    self.assertEqual((one.block, one.length), (other.block, other.length))


if __name__ == "__main__":
    unittest.main()
