"""What several test files need: values of every kind, and slow but plain ways to reckon."""

import itertools
import random
import unittest

from guardsums.errors import BadOver
from guardsums.guards import Guard
from guardsums.matrices import undone
from guardsums.ratios import Ratio


def any_values():
    """New values of every kind that "any value" names."""
    deep = []
    for _ in range(9):
        deep = [deep]
    return [None, True, False, 0, -7, 10 ** 39, "", "numbers", (), (1, (2, None)), [], [1, [2]], {}, {"A": [(1,)]},
            deep, Ratio(1, 2), BadOver()]


def chance(seed):
    """A source of numbers that is the same in each run."""
    return random.Random(seed)


def rows_of(modulus, width):
    """All rows of so many numbers modulo M."""
    return list(itertools.product(range(modulus), repeat=width))


def span(modulus, rows, width):
    """All rows that are sums of multiples of the rows, by adding until nothing new comes."""
    found = {(0,) * width}
    for row in rows:
        multiples = [tuple(times * number % modulus for number in row) for times in range(modulus)]
        found = {tuple((a + b) % modulus for a, b in zip(one, other)) for one in found for other in multiples}
    return found


def dot(modulus, one, other):
    return sum(a * b for a, b in zip(one, other)) % modulus


def times(modulus, one, other):
    """The product of two matrices, number by number."""
    return tuple(tuple(dot(modulus, row, column) for column in zip(*other)) for row in one)


def random_matrix(source, modulus, height, width):
    return tuple(tuple(source.randrange(modulus) for _ in range(width)) for _ in range(height))


def random_undoable(source, modulus, size):
    """A matrix that can be undone."""
    while True:
        matrix = random_matrix(source, modulus, size, size)
        if undone(modulus, matrix) is not None:
            return matrix


def random_block(source, modulus, width, many):
    return [tuple(source.randrange(modulus) for _ in range(width)) for _ in range(many)]


def state_behind(guard, block, state):
    """The state behind a block, by the words of the document: A v + G x for each symbol."""
    for symbol in block:
        state = tuple(
            (sum(guard.matrix[row][at] * state[at] for at in range(guard.size))
             + sum(guard.columns[row][at] * symbol[at] for at in range(guard.width))) % guard.modulus
            for row in range(guard.size))
    return state


def told(guard, block):
    """What is told of a block, by the words of the document."""
    state = state_behind(guard, block, guard.start)
    return tuple((number + more) % guard.modulus for number, more in zip(state, guard.end))


class Checks(unittest.TestCase):
    """Test cases that look at the fields of errors as well."""

    def raises(self, error, fields, call, *arguments):
        """The call raises just this error, each field being this value itself, or one of its kind that equals it."""
        with self.assertRaises(error) as caught:
            call(*arguments)
        self.assertIs(type(caught.exception), error)
        self.assertEqual(sorted(vars(caught.exception)), sorted(fields))
        for name, value in fields.items():
            field = getattr(caught.exception, name)
            self.assertTrue(field is value or (type(field) is type(value) and field == value), (name, field, value))

    def defined(self, module, names):
        """The module itself defines these names."""
        for name in names:
            self.assertEqual(getattr(module, name).__module__, module.__name__)


def no_integers():
    """New values of every kind but integers."""
    return [value for value in any_values() if not isinstance(value, int)] + [True, False, 1.0, b"1"]


def random_guard(source, modulus, size, width):
    return Guard(modulus, random_undoable(source, modulus, size), random_matrix(source, modulus, size, width),
                 random_matrix(source, modulus, 1, size)[0], random_matrix(source, modulus, 1, size)[0])


def spelled(block, width):
    """The symbols of a plain block."""
    length, distance, number = block
    symbols = [(0,) * width for _ in range(length)]
    if distance is not None:
        symbols[length - 1 - distance] = tuple(int(at == number) for at in range(width))
    return symbols


def all_blocks(guard, length):
    """All blocks of so many symbols."""
    return itertools.product(rows_of(guard.modulus, guard.width), repeat=length)


def companion(modulus, factors):
    """The matrix whose characteristic polynomial has these factors, that of the lowest power first, and 1 on top."""
    size = len(factors)
    return tuple(tuple(int(at == row - 1) for at in range(size - 1)) + (-factors[row] % modulus,)
                 for row in range(size))


def blocks_of(parts):
    """The matrix with these matrices in its diagonal, 0 elsewhere."""
    size = sum(len(part) for part in parts)
    rows, ahead = [], 0
    for part in parts:
        for row in part:
            rows.append((0,) * ahead + tuple(row) + (0,) * (size - ahead - len(part)))
        ahead += len(part)
    return tuple(rows)
