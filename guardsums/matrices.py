"""Matrices modulo M: tuples of rows, rows being tuples of integers."""

from guardsums.stairs import Stairs


def product(modulus, one, other):
    """The product of two matrices, the width of one being the height of other."""
    columns = transposed(other)
    return tuple([applied(modulus, columns, row) for row in one])


def applied(modulus, matrix, row):
    """The row of the products of the matrix with row as a column."""
    return tuple([sum([a * b for a, b in zip(line, row)]) % modulus for line in matrix])


def transposed(matrix):
    """The matrix with its columns as rows."""
    return tuple(zip(*matrix))


def unit(size, place):
    """The row of so many numbers with 1 at this place and 0 elsewhere."""
    return (0,) * place + (1,) + (0,) * (size - place - 1)


def identity(size):
    """The matrix with 1 in the diagonal and 0 elsewhere."""
    return tuple([unit(size, place) for place in range(size)])


def power(modulus, matrix, many):
    """The product of so many times the matrix; the identity for 0."""
    result, square = identity(len(matrix)), matrix
    while many > 0:
        if many % 2 == 1:
            result = product(modulus, result, square)
        many = many // 2
        if many > 0:
            square = product(modulus, square, square)
    return result


def undone(modulus, matrix):
    """The matrix whose products with it are the identity; None if there is none."""
    size = len(matrix)
    stairs = Stairs(modulus, size)
    for place, row in enumerate(matrix):
        # Behind each row stands how it is made of the rows of the matrix.
        stairs.put([number % modulus for number in row] + list(unit(size, place)))
    for place, step in enumerate(stairs.steps):
        if step is None or step[place] != 1:
            return None
    return tuple([row[size:] for row in stairs.settled()])
