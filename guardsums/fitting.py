"""Starts and ends, and polynomials, that fit samples of what was told."""

from guardsums.binary import Heard, is_told
from guardsums.errors import BadSample, BadWidth, TooMany
from guardsums.guards import state_behind
from guardsums.howell import NoWay, Ways, count_ways, is_no_way, is_ways, solutions
from guardsums.makers import remainder
from guardsums.matrices import power, unit
from guardsums.spans import Span
from guardsums.values import frozen, is_list, is_row, is_symbol, is_within, wrong_symbol

MOST_SAMPLES = 64
MOST_SYMBOLS = 1000
MOST_WIDTH = 8


class Fit:
    """With this start and end all samples are told; kernel is the howell form of all that can be added to them."""

    def __init__(self, guard, samples, start, end, kernel):
        self.guard = frozen(guard)
        self.samples = frozen(samples)
        self.start = frozen(start)
        self.end = frozen(end)
        self.kernel = frozen(kernel)


class NoFit:
    """No start and end tell all samples: left times what is told is the same with all, and another in the samples."""

    def __init__(self, guard, samples, left):
        self.guard = frozen(guard)
        self.samples = frozen(samples)
        self.left = frozen(left)


def fit(guard, samples):
    """Fit if some start and end tell all samples with the matrix and the columns of the guard, otherwise NoFit."""
    check_samples(guard, samples)
    rows = equations(guard, samples)
    span = spanning(guard, rows)
    matrix, wish = parted(span.rows)
    told = solutions(guard.modulus, matrix, wish)
    if isinstance(told, Ways):
        return Fit(guard, samples, told.one[:guard.size], told.one[guard.size:], told.kernel)
    left = [0] * len(rows)
    for index, number in zip(span.marks, told.left):
        left[index] = number
    return NoFit(guard, samples, left)


def count_fits(guard, samples):
    """How many starts and ends tell all samples."""
    check_samples(guard, samples)
    matrix, wish = parted(spanning(guard, equations(guard, samples)).rows)
    return count_ways(guard.modulus, matrix, wish)


def is_fit(fit):
    """Whether start and end of a Fit tell all samples, and its kernel is the howell form itself."""
    guard, samples, start, end = fit.guard, fit.samples, fit.start, fit.end
    check_samples(guard, samples)
    if not is_row(start, guard.size) or not is_row(end, guard.size):
        return False
    matrix, wish = parted(spanning(guard, equations(guard, samples)).rows)
    return is_ways(Ways(guard.modulus, matrix, wish, start + end, fit.kernel))


def is_no_fit(no_fit):
    """Whether left of a NoFit shows that no start and end tell all samples."""
    guard, samples = no_fit.guard, no_fit.samples
    check_samples(guard, samples)
    matrix, wish = parted(equations(guard, samples))
    return is_no_way(NoWay(guard.modulus, matrix, wish, no_fit.left))


def check_samples(guard, samples):
    """Raises TooMany or BadSample unless these are samples of the guard."""
    if not is_within(len(samples), 1, MOST_SAMPLES):
        raise TooMany("samples", len(samples), MOST_SAMPLES)
    for index, sample in enumerate(samples):
        if not is_sample(guard, sample):
            raise BadSample(index)


def is_sample(guard, value):
    """Whether any value is a pair, a tuple, of a list of symbols and what a guard of this form can tell of it."""
    if not isinstance(value, tuple) or len(value) != 2 or not is_symbol(value[1], guard.size, guard.modulus):
        return False
    block = value[0]
    if not is_list(block) or len(block) > MOST_SYMBOLS:
        return False
    return wrong_symbol(block, guard.width, guard.modulus) is None


def equations(guard, samples):
    """For each number that is told a row: times the numbers of start and end it gives its last number."""
    powers, rows = {}, []
    for block, told in samples:
        if len(block) not in powers:
            powers[len(block)] = power(guard.modulus, guard.matrix, len(block))
        behind = state_behind(guard, block, (0,) * guard.size)
        for index, row in enumerate(powers[len(block)]):
            rest = (told[index] - behind[index]) % guard.modulus
            rows.append(row + unit(guard.size, index) + (rest,))
    return rows


def spanning(guard, rows):
    """The Span of the rows of equations under their indexes: what solves those that it keeps solves all."""
    span = Span(guard.modulus, 2 * guard.size + 1)
    for index, row in enumerate(rows):
        span.put(index, row)
    return span


def parted(rows):
    """The matrix and the wish of rows of equations."""
    return tuple([row[:-1] for row in rows]), tuple([row[-1] for row in rows])


def remainders(width, samples):
    """The polynomials, ascending, for which the guard remainder(width, polynomial) fits samples of blocks of bits."""
    if not is_within(width, 1, MOST_WIDTH):
        raise BadWidth(width)
    check_samples(remainder(width, 1), samples)
    heard = [Heard(block, told) for block, told in samples]
    return tuple([polynomial for polynomial in range(1, 1 << width, 2) if is_told(width, polynomial, heard)])
