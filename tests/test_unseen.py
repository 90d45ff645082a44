"""Point 15: changes that are not seen."""

import itertools
import unittest

from guardsums import unseen as module
from guardsums.errors import BadKind, BadModulus, BadSize, BadWidth, TooMany
from guardsums.guards import Guard
from guardsums.howell import judge_kernel
from guardsums.makers import digits, mirrored, packed, pair, plain, remainder, turned
from guardsums.matrices import applied, identity, power, product
from guardsums.ratios import Ratio
from guardsums.unseen import (Seen, Unseen, chance, first_pair, is_seen, is_unseen, judge_change, least_exchange,
                              least_pair, mixing, safe_burst, unseen_number)
from guardsums.values import frozen
from tests import support
from tests.support import (Checks, all_blocks, any_values, blocks_of, companion, no_integers, random_guard,
                           random_undoable, rows_of, times, told)

TURN = ((0, 0, 1), (1, 0, 1), (0, 1, 0))
BITS = Guard(2, TURN, ((1,), (0,), (0,)), (0, 0, 0), (0, 0, 0))
KINDS = ("burst", "pair", "exchange")
GREAT = 10 ** 30


def raised(guard, many):
    """The power of the guard's matrix, by taking one after the other."""
    matrix = identity(guard.size)
    for _ in range(many):
        matrix = times(guard.modulus, guard.matrix, matrix)
    return matrix


def mixed(guard, kind, size):
    """The matrix of a kind and size by the words of the document."""
    if kind == "burst":
        parts = [times(guard.modulus, raised(guard, size - 1 - at), guard.columns) for at in range(size)]
    else:
        ahead = times(guard.modulus, raised(guard, size), guard.columns)
        parts = [ahead, guard.columns] if kind == "pair" else [
            tuple(tuple((a - b) % guard.modulus for a, b in zip(*rows)) for rows in zip(ahead, guard.columns))]
    return tuple(sum(rows, ()) for rows in zip(*parts))


def told_unseen(guard, kind, size):
    """Whether two blocks that such a change parts, but are not the same, are told alike: by trying all symbols."""
    zeros = [(0,) * guard.width] * (size + 1)
    if kind == "burst":
        return any(told(guard, block) == told(guard, zeros[:size]) for block in all_blocks(guard, size)
                   if any(map(any, block)))
    for one, other in all_blocks(guard, 2):
        block = [one] + zeros[:size - 1] + [other]
        against = zeros if kind == "pair" else [other] + zeros[:size - 1] + [one]
        if block != against and told(guard, block) == told(guard, against):
            return True
    return False


class Kinds(Checks):
    def test_interface(self):
        self.defined(module, ("mixing", "judge_change", "Seen", "Unseen", "is_seen", "is_unseen", "safe_burst",
                              "least_pair", "least_exchange", "first_pair", "unseen_number", "chance"))

    def test_document(self):
        self.assertEqual([safe_burst(BITS), judge_change(BITS, "burst", 4).change, judge_change(BITS, "burst", 3).back],
                         [3, ((1,), (0,), (1,), (1,)), ((0, 0, 1), (0, 1, 0), (1, 0, 0))])
        self.assertEqual([least_pair(BITS), least_exchange(BITS), unseen_number(BITS, 7), str(chance(BITS, 7))],
                         [7, 7, 15, "15/127"])
        guard = Guard(255, ((1, 0), (1, 1)), ((1,), (1,)), (0, 0), (0, 0))
        self.assertEqual([least_pair(guard), least_exchange(guard), safe_burst(guard), unseen_number(guard, 2)],
                         [3, 3, 2, 0])

    def test_mixing(self):
        source = support.chance(1)
        for modulus, size, width in ((2, 3, 1), (6, 2, 2), (10 ** 18, 4, 3), (255, 1, 2), (7, 5, 16)):
            guard = random_guard(source, modulus, size, width)
            for kind in KINDS:
                for many in (1, 2, 3, 7, 64):
                    self.assertEqual(mixing(guard, kind, many), mixed(guard, kind, many))

    def test_mixing_far_apart(self):
        source = support.chance(2)
        for modulus, size, width in ((2, 16, 1), (10 ** 18, 5, 3)):
            guard = random_guard(source, modulus, size, width)
            for many in (65, 1000, GREAT - 1, GREAT):
                ahead = product(modulus, power(modulus, guard.matrix, many), guard.columns)
                self.assertEqual(mixing(guard, "pair", many),
                                 tuple(row + more for row, more in zip(ahead, guard.columns)))
                self.assertEqual(mixing(guard, "exchange", many),
                                 tuple(tuple((a - b) % modulus for a, b in zip(row, more))
                                       for row, more in zip(ahead, guard.columns)))

    def test_kinds(self):
        calls = [lambda kind: mixing(BITS, kind, None), lambda kind: judge_change(BITS, kind, None)]
        for kind in any_values() + ["bursts", "Burst", "burst ", "pairs", b"pair", ("pair",), ["burst"]]:
            for call in calls:
                self.raises(BadKind, {"kind": kind}, call, kind)
            self.raises(BadKind, {"kind": frozen(kind)}, is_seen, Seen(BITS, kind, None, ()))
            self.raises(BadKind, {"kind": frozen(kind)}, is_unseen, Unseen(BITS, kind, None, ()))

    def test_sizes(self):
        for kind in KINDS:
            most = 64 if kind == "burst" else GREAT
            for size in no_integers() + [0, -1, most + 1, 10 ** 40 - 1]:
                self.raises(BadSize, {"size": size}, mixing, BITS, kind, size)
                self.raises(BadSize, {"size": size}, judge_change, BITS, kind, size)
                self.raises(BadSize, {"size": frozen(size)}, is_seen, Seen(BITS, kind, size, ()))
                self.raises(BadSize, {"size": frozen(size)}, is_unseen, Unseen(BITS, kind, size, ()))
            for size in (1, 2, most):
                self.assertEqual(len(mixing(BITS, kind, size)), 3)
                self.assertIn(type(judge_change(BITS, kind, size)), (Seen, Unseen))


class Judged(Checks):
    def check(self, guard, kind, size):
        answer = judge_change(guard, kind, size)
        self.assertTrue(answer.guard == guard)
        self.assertEqual((answer.kind, answer.size), (kind, size))
        if type(answer) is Seen:
            self.assertIs(is_seen(answer), True)
            width = len(mixing(guard, kind, size)[0])
            self.assertEqual(times(guard.modulus, answer.back, mixing(guard, kind, size)), identity(width))
        else:
            self.assertIs(type(answer), Unseen)
            self.assertIs(is_unseen(answer), True)
            self.assertEqual(len(answer.change), {"burst": size, "pair": 2, "exchange": 1}[kind])
            numbers = sum(answer.change, ())
            self.assertTrue(any(numbers))
            self.assertEqual(applied(guard.modulus, mixing(guard, kind, size), numbers), (0,) * guard.size)
        return type(answer) is Unseen

    def test_all_changes_of_small_guards(self):
        source, found = support.chance(3), {True: 0, False: 0}
        cases = [(2, 1, 1), (2, 2, 1), (2, 3, 1), (3, 2, 1), (4, 1, 1), (4, 2, 1), (6, 1, 1), (6, 2, 1), (2, 3, 2), (2, 2, 2),
                 (3, 2, 2), (2, 4, 2), (4, 2, 2), (9, 2, 1)]
        for modulus, size, width in cases:
            for _ in range(6):
                guard = random_guard(source, modulus, size, width)
                for many in (1, 2, 3, 4):
                    for kind in KINDS:
                        if (modulus ** width) ** (many if kind == "burst" else 2) <= 300:
                            unseen = told_unseen(guard, kind, many)
                            self.assertIs(self.check(guard, kind, many), unseen)
                            found[unseen] += 1
        self.assertGreater(min(found.values()), 50)

    def test_the_change_is_told_alike(self):
        source = support.chance(4)
        for modulus, size, width in ((2, 8, 1), (255, 2, 1), (12, 3, 2), (10 ** 18, 2, 2)):
            guard = random_guard(source, modulus, size, width)
            for kind in KINDS:
                for many in (1, 2, 5, 9):
                    answer = judge_change(guard, kind, many)
                    if type(answer) is Unseen:
                        block = support.random_block(source, modulus, width, many + 4)
                        other, change = list(block), answer.change
                        places = range(2, 2 + many) if kind == "burst" else (2, 2 + many)
                        if kind == "exchange":
                            # Two symbols with this difference: they are exchanged.
                            block[2] = tuple((a + b) % modulus for a, b in zip(block[2 + many], change[0]))
                            other = list(block)
                            other[2], other[2 + many] = block[2 + many], block[2]
                        else:
                            for place, symbol in zip(places, change):
                                other[place] = tuple((a + b) % modulus for a, b in zip(block[place], symbol))
                        self.assertNotEqual(block, other)
                        self.assertEqual(told(guard, block), told(guard, other))

    def test_great_guards(self):
        source = support.chance(5)
        for modulus, size, width in ((2, 16, 1), (2, 16, 16), (6, 16, 5), (10 ** 18, 16, 1), (10 ** 18, 16, 16)):
            guard = random_guard(source, modulus, size, width)
            for kind in KINDS:
                for many in (1, 2, 3, 16, 17, 63, 64) + (() if kind == "burst" else (10 ** 9, GREAT)):
                    self.check(guard, kind, many)

    def test_known_sums(self):
        # A remainder sees all bursts up to its width, and two symbols less far apart than z comes round.
        for width, polynomial, turns in ((8, 7, 127), (16, 0x8005, 32767), (16, 0x1021, 32767), (5, 5, 31)):
            guard = remainder(width, polynomial, 3, 1)
            self.assertEqual([safe_burst(guard), least_pair(guard), least_exchange(guard)], [width, turns, turns])
            self.assertIs(type(judge_change(guard, "burst", width)), Seen)
            self.assertIs(type(judge_change(guard, "burst", width + 1)), Unseen)
            for many in (turns - 1, turns, turns + 1, 2 * turns, 10 ** 29 // turns * turns, 10 ** 29 // turns * turns + 1):
                wanted = Unseen if many % turns == 0 else Seen
                self.assertIs(type(judge_change(guard, "pair", many)), wanted)
                self.assertIs(type(judge_change(guard, "exchange", many)), wanted)
        # Sums do not see exchanges; sums of sums see those of neighbours.
        self.assertEqual([least_exchange(plain(10)), least_pair(plain(10)), safe_burst(plain(10))], [1, 1, 1])
        self.assertEqual([least_exchange(pair(65521)), least_pair(pair(65521)), safe_burst(pair(65521))],
                         [65521, 65521, 2])
        self.assertEqual([least_exchange(digits(97, 10)), least_pair(digits(97, 10))], [96, 1])


class Papers(Checks):
    def test_seen(self):
        guard = Guard(6, ((1, 0), (1, 1)), ((1,), (1,)), (0, 0), (0, 0))
        seen = judge_change(guard, "burst", 2)
        self.assertIs(is_seen(seen), True)
        for row, column in itertools.product(range(2), repeat=2):
            for more, wanted in ((1, False), (-1, False), (6, True), (-6 * 10 ** 39, True)):
                back = [list(line) for line in seen.back]
                back[row][column] += more
                self.assertIs(is_seen(Seen(guard, "burst", 2, back)), wanted)
        self.assertIs(is_seen(Seen(guard, "pair", 1, seen.back)), True)
        for kind, size in (("burst", 1), ("burst", 3), ("pair", 2), ("pair", 6), ("exchange", 1)):
            self.assertIs(is_seen(Seen(guard, kind, size, seen.back)), False)
        for back in any_values() + [seen.back[:1], seen.back + ((0, 0),), (seen.back[0], seen.back[1] + (0,)),
                                    (seen.back[0], (True, 0)), (seen.back[0], None), seen.back[0]]:
            self.assertIs(is_seen(Seen(guard, "burst", 2, back)), False)

    def test_more_columns_than_rows(self):
        guard = random_guard(support.chance(6), 2, 2, 3)
        for size in (1, 2, 64):
            back = tuple((0, 1) for _ in range(size * 3))
            self.assertIs(is_seen(Seen(guard, "burst", size, back)), False)
            self.assertIs(is_seen(Seen(guard, "burst", size, ())), False)

    def test_unseen(self):
        for guard, kind, size in ((BITS, "burst", 4), (BITS, "pair", 7), (BITS, "exchange", 14),
                                  (random_guard(support.chance(7), 6, 2, 2), "burst", 3),
                                  (random_guard(support.chance(8), 4, 1, 3), "exchange", 2)):
            answer = judge_change(guard, kind, size)
            self.assertIs(type(answer), Unseen)
            self.assertIs(is_unseen(answer), True)
            # All changes of this form, against the words.
            symbols = rows_of(guard.modulus, guard.width)
            matrix = mixed(guard, kind, size)
            for change in itertools.islice(itertools.product(symbols, repeat=len(answer.change)), 3000):
                numbers = sum(change, ())
                wanted = any(numbers) and not any(applied(guard.modulus, matrix, numbers))
                self.assertIs(is_unseen(Unseen(guard, kind, size, change)), wanted)
                self.assertIs(is_unseen(Unseen(guard, kind, size, list(change))), wanted)

    def test_other_values(self):
        change = judge_change(BITS, "burst", 4).change
        for value in any_values() + [change[:3], change + ((0,),), change[0], ((1,), (0,), (1,), (3,)),
                                     ((1,), (0,), (1,), (-1,)), ((1,), (0,), (1,), (True,)), ((1,), (0,), (1,), 1),
                                     ((1,), (0,), (1,), (1, 0)), ((1,), (0,), (1,), ()), ((0,),) * 4, "1011"]:
            self.assertIs(is_unseen(Unseen(BITS, "burst", 4, value)), False)
        for kind, size in (("burst", 3), ("burst", 5), ("pair", 7), ("exchange", 7)):
            self.assertIs(is_unseen(Unseen(BITS, kind, size, change)), False)

    def test_fields(self):
        back = [[1, [2]], [3]]
        seen, unseen = Seen(BITS, ["pair"], [7], back), Unseen(BITS, ["pair"], [7], back)
        back[0][1].append(4)
        self.assertEqual(vars(seen), {"guard": BITS, "kind": ("pair",), "size": (7,), "back": ((1, (2,)), (3,))})
        self.assertEqual(vars(unseen), {"guard": BITS, "kind": ("pair",), "size": (7,), "change": ((1, (2,)), (3,))})
        for value in any_values():
            if not isinstance(value, (list, tuple, dict)):
                self.assertIs(Seen(BITS, value, 1, 2).kind, value)
                self.assertIs(Unseen(BITS, 1, 2, value).change, value)


class Least(Checks):
    def first(self, guard, kind, most):
        sizes = [size for size in range(1, most + 1) if type(judge_change(guard, kind, size)) is Unseen]
        return sizes[0] if sizes else None

    def test_safe_bursts(self):
        source = support.chance(9)
        for modulus, size, width in ((2, 5, 1), (2, 5, 2), (6, 3, 1), (4, 2, 1), (12, 4, 2), (3, 4, 4), (2, 3, 5), (5, 16, 1)):
            for _ in range(8):
                guard = random_guard(source, modulus, size, width)
                safe = safe_burst(guard)
                self.assertEqual(safe, self.first(guard, "burst", 20) - 1)
                self.assertLessEqual(safe * width, size)
        self.assertEqual(safe_burst(Guard(10, [[1]], [[5]], [0], [0])), 0)
        self.assertEqual(safe_burst(Guard(10, [[1]], [[3]], [0], [0])), 1)

    def test_pairs_and_exchanges_of_one_number(self):
        source = support.chance(10)
        for modulus, size in ((2, 4), (2, 7), (3, 3), (4, 3), (6, 2), (5, 2), (12, 2), (9, 2), (30, 2), (15, 1), (49, 2)):
            for turn in range(8):
                guard = random_guard(source, modulus, size, 1)
                if turn == 0:
                    guard = Guard(modulus, guard.matrix, [[0]] * size, guard.start, guard.end)
                least = least_pair(guard)
                self.assertEqual(least, self.first(guard, "pair", max(least, 1)))
                self.assertEqual(first_pair(guard, 2000), least if least <= 2000 else None)
                least = least_exchange(guard)
                if least < 400:
                    self.assertEqual(least, self.first(guard, "exchange", least))

    def test_exchanges_of_more_numbers(self):
        source = support.chance(11)
        cases = ((2, 4, 2), (2, 5, 3), (2, 8, 3), (3, 4, 2), (6, 3, 2), (4, 4, 2), (5, 3, 2), (2, 3, 4), (7, 3, 2), (12, 3, 2),
                 (2, 9, 2))
        for modulus, size, width in cases:
            for _ in range(6):
                guard = random_guard(source, modulus, size, width)
                least = least_exchange(guard)
                if least <= 300:
                    self.assertEqual(least, self.first(guard, "exchange", least))
                else:
                    self.assertIsNone(self.first(guard, "exchange", 300))
                    self.assertIs(type(judge_change(guard, "exchange", least)), Unseen)

    def test_exchanges_of_parts_that_come_round_apart(self):
        # Three registers side by side come round behind 3, 7 and 31 turns, sums of sums behind 4.
        parts = [companion(2, [1, 1]), companion(2, [1, 1, 0]), companion(2, [1, 0, 1, 0, 0]),
                 tuple(tuple(int(at in (row, row - 1)) for at in range(4)) for row in range(4))]
        matrix = blocks_of(parts)
        firsts = [0, 2, 5, 10]
        for chosen, wanted in (((0,), 3), ((1,), 7), ((2,), 31), ((3,), 4), ((0, 1), 3), ((1, 2), 7), ((2, 3), 4),
                               ((0, 1, 2, 3), 3)):
            columns = [[int(row == firsts[part]) for part in chosen] for row in range(14)]
            self.assertEqual(least_exchange(Guard(2, matrix, columns, [0] * 14, [0] * 14)), wanted)
        # A number that moves two of them at once.
        for both, wanted in (((0, 1), 21), ((1, 2), 217), ((0, 2), 93), ((0, 3), 12), ((1, 3), 28), ((0, 1, 2, 3), 2604)):
            column = [[int(row in [firsts[part] for part in both])] for row in range(14)]
            self.assertEqual(least_exchange(Guard(2, matrix, column, [0] * 14, [0] * 14)), wanted)
            # With another number of 217 turns beside it the lesser one counts; both together differ by one register.
            wide = [line + [int(row in (2, 5))] for row, line in enumerate(column)]
            told = least_exchange(Guard(2, matrix, wide, [0] * 14, [0] * 14))
            self.assertEqual(told, self.first(Guard(2, matrix, wide, [0] * 14, [0] * 14), "exchange", told))
            self.assertLessEqual(told, wanted)

    def test_great_exchanges(self):
        source = support.chance(12)
        for modulus, size, width in ((2, 16, 12), (2, 16, 2), (3, 16, 7), (61, 5, 2), (13, 8, 3), (6, 8, 4), (15, 6, 5)):
            guard = random_guard(source, modulus, size, width)
            least = least_exchange(guard)
            self.assertIs(type(judge_change(guard, "exchange", least)), Unseen)
            for many in range(1, 12):
                if many < least:
                    self.assertIs(type(judge_change(guard, "exchange", many)), Seen)
            for part in (2, 3, 5, 7, 11, 13, 31):
                if least % part == 0:
                    self.assertIs(type(judge_change(guard, "exchange", least // part)), Seen)
            # The same guard written otherwise.
            other = mirrored(turned(guard, random_undoable(source, modulus, size)))
            self.assertEqual(least_exchange(other), least)

    def test_packed(self):
        for times_packed in (2, 3, 7):
            guard = packed(BITS, times_packed)
            self.assertEqual(least_exchange(guard), self.first(guard, "exchange", 100))
            self.assertEqual(first_pair(guard, 100), self.first(guard, "pair", 100))

    def test_first_pair(self):
        source = support.chance(13)
        for modulus, size, width in ((2, 6, 2), (2, 8, 3), (6, 4, 2), (4, 4, 2), (12, 4, 1), (10 ** 18, 3, 1), (5, 4, 2), (3, 2, 2),
                                     (10 ** 18, 4, 2), (2, 3, 3)):
            for _ in range(6):
                guard = random_guard(source, modulus, size, width)
                for most in (1, 2, 30):
                    self.assertEqual(first_pair(guard, most), self.first(guard, "pair", most))
        self.assertEqual(first_pair(BITS, 2000), 7)
        self.assertEqual([first_pair(BITS, 6), first_pair(BITS, 7)], [None, 7])
        self.assertEqual([first_pair(pair(1999), 2000), first_pair(pair(1999), 1998), first_pair(pair(2003), 2000)],
                         [1999, None, None])
        # No prime of it is asked for.
        self.assertEqual(first_pair(pair(1009 * (10 ** 14 + 31)), 2000), 1009)

    def test_errors_of_pairs(self):
        wide = Guard(10 ** 18, identity(2), ((1, 0), (0, 1)), (0, 0), (0, 0))
        self.raises(BadWidth, {"width": 2}, least_pair, wide)
        self.raises(BadWidth, {"width": 16}, least_pair, Guard(2, [[1]], [[0] * 16], [0], [0]))
        for modulus in (10 ** 12 + 1, 10 ** 18):
            self.raises(BadModulus, {"number": modulus}, least_pair, plain(modulus))
            self.raises(BadModulus, {"number": modulus}, least_exchange, plain(modulus))
            self.raises(BadModulus, {"number": modulus}, least_exchange,
                        Guard(modulus, identity(2), ((1, 0), (0, 1)), (0, 0), (0, 0)))
        self.assertEqual([least_pair(plain(10 ** 12)), least_exchange(plain(10 ** 12))], [1, 1])
        prime = 1048609
        square = companion(prime, [-[number for number in range(2, 50)
                                     if pow(number, (prime - 1) // 2, prime) != 1][0] % prime, 0])
        fields = {"what": "turns", "many": prime ** 2, "most": 2 ** 40}
        guard = Guard(prime, square, ((1,), (0,)), (0, 0), (0, 0))
        self.raises(TooMany, fields, least_pair, guard)
        self.raises(TooMany, fields, least_exchange, guard)
        for value in no_integers() + [0, -1, 2001, 10 ** 30]:
            self.raises(BadSize, {"size": value}, first_pair, guard, value)
            self.raises(BadSize, {"size": value}, first_pair, wide, value)

    def test_errors_of_exchanges(self):
        def guard(modulus, width, matrix=((1,),)):
            size = len(matrix)
            return Guard(modulus, matrix, [[1] * width] * size, [0] * size, [0] * size)
        for modulus, width, many in ((2, 13, 8192), (2, 16, 65536), (3, 8, 6561), (67, 2, 4489), (17, 3, 4913), (6, 13, 8192),
                                     (6, 8, 6561), (2 * 67, 2, 4489), (67 * 71, 2, 4489), (5, 6, 15625), (999983, 2, 999983 ** 2)):
            self.raises(TooMany, {"what": "symbols", "many": many, "most": 4096}, least_exchange, guard(modulus, width))
        for modulus, width in ((2, 12), (3, 7), (61, 2), (13, 3), (4, 12), (61 * 59, 2), (7, 4), (999983, 1), (5, 5)):
            self.assertEqual(least_exchange(guard(modulus, width)), 1)
        # Ahead of what is too many turns.
        prime = 1048609
        square = companion(prime, [-11 % prime, 0])
        self.raises(TooMany, {"what": "symbols", "many": prime ** 2, "most": 4096}, least_exchange, guard(prime, 2, square))


class Numbers(Checks):
    def test_all_changes_of_small_guards(self):
        source = support.chance(14)
        for modulus, size, width in ((2, 3, 1), (3, 2, 1), (4, 2, 1), (6, 1, 1), (2, 2, 2), (4, 1, 2), (2, 4, 1), (12, 1, 1)):
            for _ in range(5):
                guard = random_guard(source, modulus, size, width)
                for many in range(1, 7):
                    if (modulus ** width) ** many <= 5000:
                        zeros = told(guard, [(0,) * width] * many)
                        found = sum(told(guard, block) == zeros for block in all_blocks(guard, many)) - 1
                        self.assertEqual(unseen_number(guard, many), found)
                        self.assertTrue(chance(guard, many) == Ratio(found, modulus ** (width * many) - 1))

    def test_great_blocks(self):
        self.assertEqual(unseen_number(remainder(16, 0x8005), 1000), 2 ** 984 - 1)
        self.assertEqual(unseen_number(pair(10 ** 18), 1000), 10 ** (18 * 998) - 1)
        self.assertEqual([unseen_number(BITS, many) for many in (1, 2, 3, 4)], [0, 0, 0, 1])
        guard = Guard(12, [[1]], [[4]], [0], [0])
        self.assertEqual([unseen_number(guard, many) for many in (1, 2, 1000)], [3, 47, 4 * 12 ** 999 - 1])
        wide = Guard(10 ** 18, identity(16), [[1] * 16] * 16, [0] * 16, [0] * 16)
        self.assertEqual(unseen_number(wide, 1000), 10 ** (18 * 15999) - 1)
        told_chance = chance(wide, 1000)
        self.assertEqual((told_chance.number * (10 ** (18 * 16000) - 1)), told_chance.over * (10 ** (18 * 15999) - 1))

    def test_chances(self):
        self.assertEqual([str(chance(BITS, many)) for many in (1, 3, 4, 7)], ["0", "0", "1/15", "15/127"])
        self.assertIs(type(chance(BITS, 1)), Ratio)
        self.assertTrue(chance(plain(10), 2) == Ratio(9, 99))
        self.assertTrue(chance(Guard(2, [[1]], [[0]], [0], [0]), 5) == Ratio(1))

    def test_sizes(self):
        for value in no_integers() + [0, -1, 1001, 10 ** 30]:
            self.raises(BadSize, {"size": value}, unseen_number, BITS, value)
            self.raises(BadSize, {"size": value}, chance, BITS, value)
        self.assertEqual(unseen_number(BITS, 1000), 2 ** 997 - 1)


class Whole(Checks):
    def test_a_kernel_just_for_a_prime(self):
        # Some change is unseen just if one is modulo a prime of the modulus.
        source = support.chance(15)
        for _ in range(30):
            guard = random_guard(source, 30, 2, 1)
            for kind in KINDS:
                for size in (1, 2, 3):
                    parts = [type(judge_kernel(prime, mixing(guard, kind, size))).__name__ for prime in (2, 3, 5)]
                    self.assertIs(type(judge_change(guard, kind, size)), Unseen if "Lost" in parts else Seen)

    def test_equal_calls(self):
        one = Guard(12, [[1, 2], [3, 1]], [[1], [3]], [0, 0], [0, 0])
        other = Guard(12, ((1, 2), (3, 1)), ((1,), (3,)), (0, 0), (0, 0))
        for kind in KINDS:
            for size in (1, 2, 3, 4):
                first, second = vars(judge_change(one, kind, size)), vars(judge_change(other, kind, size))
                self.assertTrue(first.pop("guard") == second.pop("guard"))
                self.assertEqual(first, second)


if __name__ == "__main__":
    unittest.main()
