"""Guards as people write them, and guards made of other guards."""

from guardsums.errors import BadNumber, BadPolynomial, BadSize, BadWidth, NotUndone, TooMany
from guardsums.guards import MOST_NUMBERS, Guard, check_modulus, checked_matrix
from guardsums.matrices import applied, power, product, undone
from guardsums.values import is_within

MOST_WIDTH = 16
MOST_TIMES = 16
MOST_ZEROS = 10 ** 30
MOST_IN_TABLE = 4096


def remainder(width, polynomial, start=0, end=0):
    """The guard of remainders by a polynomial: a register of width bits, the highest one first."""
    if not is_within(width, 1, MOST_WIDTH):
        raise BadWidth(width)
    most = (1 << width) - 1
    if not is_within(polynomial, 1, most) or polynomial & 1 == 0:
        raise BadPolynomial(polynomial)
    if not is_within(start, 0, most):
        raise BadNumber(start)
    if not is_within(end, 0, most):
        raise BadNumber(end)
    turns = bits(width, polynomial)
    # A bit goes one place up, which is one index down; the highest one turns the polynomial's bits.
    matrix = [[turns[row]] + [int(row + 1 == place) for place in range(1, width)] for row in range(width)]
    return Guard(2, matrix, [[turn] for turn in turns], bits(width, start), bits(width, end))


def bits(width, number):
    """The bits of a number, the highest one first."""
    return [number >> place & 1 for place in reversed(range(width))]


def plain(modulus):
    """The guard that adds symbols of one number."""
    return Guard(modulus, [[1]], [[1]], [0], [0])


def digits(modulus, base):
    """The guard that takes symbols of one number as digits of one number."""
    check_modulus(modulus)
    if not is_within(base, 1, modulus - 1):
        raise BadNumber(base)
    return Guard(modulus, [[base]], [[1]], [0], [0])


def pair(modulus, first=0):
    """The guard that adds symbols of one number, from first on, and adds up these sums as well."""
    check_modulus(modulus)
    if not is_within(first, 0, modulus - 1):
        raise BadNumber(first)
    return Guard(modulus, [[1, 0], [1, 1]], [[1], [1]], [first, 0], [0, 0])


def packed(guard, times):
    """The guard that reads so many symbols as one and tells the same."""
    if not is_within(times, 1, MOST_TIMES):
        raise BadSize(times)
    many = times * guard.width
    if many > MOST_NUMBERS:
        raise TooMany("numbers", many, MOST_NUMBERS)
    # Behind the first symbol stand the others, each of which takes one step more.
    columns, block = guard.columns, guard.columns
    for _ in range(times - 1):
        block = product(guard.modulus, guard.matrix, block)
        columns = tuple([more + row for more, row in zip(block, columns)])
    return Guard(guard.modulus, power(guard.modulus, guard.matrix, times), columns, guard.start, guard.end)


def mirrored(guard):
    """The guard that takes the numbers of each symbol in the opposite order."""
    return Guard(guard.modulus, guard.matrix, [row[::-1] for row in guard.columns], guard.start, guard.end)


def turned(guard, matrix):
    """The guard whose state is the matrix times the state of guard."""
    modulus = guard.modulus
    rows = checked_matrix(matrix, guard.size, modulus)
    back = undone(modulus, rows)
    if back is None:
        raise NotUndone()
    step = product(modulus, product(modulus, rows, guard.matrix), back)
    columns = product(modulus, rows, guard.columns)
    return Guard(modulus, step, columns, applied(modulus, rows, guard.start), applied(modulus, rows, guard.end))


def behind_zeros(guard, many):
    """The guard that tells of each block what guard tells of it with so many symbols of zeros behind it."""
    if not is_within(many, 0, MOST_ZEROS):
        raise BadSize(many)
    modulus = guard.modulus
    # All powers of the matrix may be taken in any order, so these steps may be made ahead of all others.
    ahead = power(modulus, guard.matrix, many)
    columns = product(modulus, ahead, guard.columns)
    return Guard(modulus, guard.matrix, columns, applied(modulus, ahead, guard.start), guard.end)


def table(guard):
    """For each symbol, ascending as tuples, the state behind it if it is all 0 ahead of it."""
    many = 1
    for _ in range(guard.width):
        many = many * guard.modulus
    if many > MOST_IN_TABLE:
        raise TooMany("symbols", many, MOST_IN_TABLE)
    symbols = [()]
    for _ in range(guard.width):
        symbols = [symbol + (number,) for symbol in symbols for number in range(guard.modulus)]
    # A symbol's state is the sum of its numbers times the columns.
    return tuple([applied(guard.modulus, guard.columns, symbol) for symbol in symbols])
