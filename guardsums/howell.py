"""Spans of rows modulo M, the solutions of equations, and what a matrix takes to 0."""

from guardsums.matrices import applied, identity, product, transposed, unit
from guardsums.stairs import Stairs
from guardsums.values import frozen, is_matrix, is_row, is_same_matrix


class Ways:
    """There are solutions: one of them, and the howell form of all solutions for the wish 0."""

    def __init__(self, modulus, matrix, wish, one, kernel):
        self.modulus = frozen(modulus)
        self.matrix = frozen(matrix)
        self.wish = frozen(wish)
        self.one = frozen(one)
        self.kernel = frozen(kernel)


class NoWay:
    """There is no solution: left times each column of the matrix is 0, left times wish is not."""

    def __init__(self, modulus, matrix, wish, left):
        self.modulus = frozen(modulus)
        self.matrix = frozen(matrix)
        self.wish = frozen(wish)
        self.left = frozen(left)


class Faithful:
    """The matrix takes 0 alone to 0: the product of back with it is the identity."""

    def __init__(self, modulus, matrix, back):
        self.modulus = frozen(modulus)
        self.matrix = frozen(matrix)
        self.back = frozen(back)


class Lost:
    """The matrix takes a row to 0 that is not all 0."""

    def __init__(self, modulus, matrix, row):
        self.modulus = frozen(modulus)
        self.matrix = frozen(matrix)
        self.row = frozen(row)


def howell(modulus, rows, width):
    """The howell form of a list of rows of this width: the only such tuple of rows that span the same."""
    stairs = Stairs(modulus, width)
    for row in rows:
        stairs.put([number % modulus for number in row])
    return stairs.settled()


def span_size(modulus, rows, width):
    """How many rows are spanned by a list of rows of this width."""
    return form_size(modulus, howell(modulus, rows, width))


def form_size(modulus, form):
    """How many rows are spanned by the rows of a howell form."""
    size = 1
    for row in form:
        pivot = [number for number in row if number != 0][0]
        size = size * (modulus // pivot)
    return size


def combination(modulus, rows, row):
    """The numbers with which the rows of a list (one at least) add up to row; None if they do not span it."""
    stairs = Stairs(modulus, len(row))
    for index in range(len(rows)):
        stairs.put(marked(modulus, rows, index))
    return made(stairs, row, len(rows))


def marked(modulus, rows, index):
    """One of the rows, and behind it how it is made of the rows: once this one, none of the others."""
    return [number % modulus for number in rows[index]] + list(unit(len(rows), index))


def made(stairs, row, many):
    """How a row is made of many rows that were put into the stairs, marked; None if it cannot be."""
    rest = stairs.rest_of([number % stairs.modulus for number in row] + [0] * many)
    if rest is None:
        return None
    return tuple([-number % stairs.modulus for number in rest[len(row):]])


def solutions(modulus, matrix, wish):
    """Ways if some row is taken to wish by the matrix, otherwise NoWay."""
    columns = transposed(matrix)
    stairs, kernel = solved(modulus, columns)
    one = made(stairs, wish, len(columns))
    if one is None:
        return NoWay(modulus, matrix, wish, witness(modulus, columns, wish))
    return Ways(modulus, matrix, wish, one, kernel)


def solved(modulus, columns):
    """The stairs of the columns, marked, and the howell form of all rows with which they add up to 0."""
    height, many = len(columns[0]), len(columns)
    stairs, kernel = Stairs(modulus, height), Stairs(modulus, many)
    # From the last one on: then most of what is put into the kernel has a place of its own there at once.
    for index in reversed(range(many)):
        kernel.put(stairs.put(marked(modulus, columns, index))[height:])
    return stairs, kernel.settled()


def kernel_of(modulus, matrix):
    """The howell form of all rows that the matrix takes to 0."""
    _, kernel = solved(modulus, transposed(matrix))
    return kernel


def witness(modulus, columns, wish):
    """A row whose products with the columns are 0, with wish not; wish is not spanned by the columns."""
    size = len(wish)
    # One row of zeros makes a matrix of any form, that of no rows too.
    form = howell(modulus, columns, size) + ((0,) * size,)
    for row in kernel_of(modulus, form):
        if applied(modulus, (row,), wish) != (0,):
            return row
    return None


def count_ways(modulus, matrix, wish):
    """How many rows, modulo M, are taken to wish by the matrix."""
    stairs, kernel = solved(modulus, transposed(matrix))
    if made(stairs, wish, len(matrix[0])) is None:
        return 0
    return form_size(modulus, kernel)


def is_ways(ways):
    """Whether one is a solution and kernel the howell form of all solutions for the wish 0."""
    modulus, matrix, width = ways.modulus, ways.matrix, len(ways.matrix[0])
    if not is_row(ways.one, width) or not is_taken(modulus, matrix, ways.one, ways.wish):
        return False
    return is_same_matrix(ways.kernel, kernel_of(modulus, matrix), width)


def is_taken(modulus, matrix, row, wish):
    """Whether the matrix takes a row of integers to wish."""
    return applied(modulus, matrix, row) == tuple([number % modulus for number in wish])


def is_no_way(no_way):
    """Whether left times each column is 0, left times wish is not."""
    modulus, left = no_way.modulus, no_way.left
    if not is_row(left, len(no_way.matrix)):
        return False
    columns = transposed(no_way.matrix)
    return applied(modulus, columns, left) == (0,) * len(columns) and applied(modulus, (left,), no_way.wish) != (0,)


def judge_kernel(modulus, matrix):
    """Faithful if the matrix takes 0 alone to 0, otherwise Lost."""
    row = lost_row(modulus, transposed(matrix))
    if row is not None:
        return Lost(modulus, matrix, row)
    width = len(matrix[0])
    # Where the columns keep all apart, the rows span every row.
    stairs = Stairs(modulus, width)
    for index in range(len(matrix)):
        stairs.put(marked(modulus, matrix, index))
    back = [made(stairs, line, len(matrix)) for line in identity(width)]
    return Faithful(modulus, matrix, back)


def lost_row(modulus, columns):
    """A row, not all 0, with which the columns add up to 0; None if there is none."""
    height = len(columns[0])
    stairs = Stairs(modulus, height)
    for index in range(len(columns)):
        rest = stairs.put(marked(modulus, columns, index))[height:]
        if any(rest):
            return tuple(rest)
    return None


def is_faithful(faithful):
    """Whether back is a matrix whose product with the matrix is the identity."""
    modulus, matrix, back = faithful.modulus, faithful.matrix, faithful.back
    width = len(matrix[0])
    return is_matrix(back, width, len(matrix)) and product(modulus, back, matrix) == identity(width)


def is_lost(lost):
    """Whether row is not all 0, and taken to 0 by the matrix."""
    modulus, matrix, row = lost.modulus, lost.matrix, lost.row
    if not is_row(row, len(matrix[0])) or not any([number % modulus for number in row]):
        return False
    return applied(modulus, matrix, row) == (0,) * len(matrix)
