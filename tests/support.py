"""What several test files need: values of every kind, and slow but plain ways to reckon."""

import itertools
import random

from guardsums.errors import BadOver
from guardsums.matrices import undone
from guardsums.ratios import Ratio


def any_values():
    """New values of every kind that "any value" names."""
    deep = []
    for _ in range(9):
        deep = [deep]
    return [None, True, False, 0, -7, 10 ** 39, "", "numbers", (), (1, (2, None)), [], [1, [2]], {}, {"A": [(1,)]},
            deep, Ratio(1, 2), BadOver()]


def chance(seed):
    """A source of numbers that is the same in each run."""
    return random.Random(seed)


def rows_of(modulus, width):
    """All rows of so many numbers modulo M."""
    return list(itertools.product(range(modulus), repeat=width))


def span(modulus, rows, width):
    """All rows that are sums of multiples of the rows, by adding until nothing new comes."""
    found = {(0,) * width}
    for row in rows:
        multiples = [tuple(times * number % modulus for number in row) for times in range(modulus)]
        found = {tuple((a + b) % modulus for a, b in zip(one, other)) for one in found for other in multiples}
    return found


def dot(modulus, one, other):
    return sum(a * b for a, b in zip(one, other)) % modulus


def times(modulus, one, other):
    """The product of two matrices, number by number."""
    return tuple(tuple(dot(modulus, row, column) for column in zip(*other)) for row in one)


def random_matrix(source, modulus, height, width):
    return tuple(tuple(source.randrange(modulus) for _ in range(width)) for _ in range(height))


def random_undoable(source, modulus, size):
    """A matrix that can be undone."""
    while True:
        matrix = random_matrix(source, modulus, size, size)
        if undone(modulus, matrix) is not None:
            return matrix


def random_block(source, modulus, width, many):
    return [tuple(source.randrange(modulus) for _ in range(width)) for _ in range(many)]


def state_behind(guard, block, state):
    """The state behind a block, by the words of the document: A v + G x for each symbol."""
    for symbol in block:
        state = tuple(
            (sum(guard.matrix[row][at] * state[at] for at in range(guard.size))
             + sum(guard.columns[row][at] * symbol[at] for at in range(guard.width))) % guard.modulus
            for row in range(guard.size))
    return state


def told(guard, block):
    """What is told of a block, by the words of the document."""
    state = state_behind(guard, block, guard.start)
    return tuple((number + more) % guard.modulus for number, more in zip(state, guard.end))
