"""Powers of a matrix modulo M, each told by few numbers, also with great exponents."""

from math import factorial

from guardsums.matrices import applied, identity, product, transposed, unit


class Turns:
    """The powers of a matrix A of k rows, told by factors: those of A ** 0, .., A ** (k - 1), which add up to it.

    A ** k is such a sum, as A is a root of its characteristic polynomial; so is each further power.
    """

    def __init__(self, modulus, matrix):
        self.modulus = modulus
        self.matrix = matrix
        self.size = len(matrix)
        self.none = unit(self.size, 0)
        self.top = top_factors(modulus, matrix)

    def further(self, factors):
        """The factors of a power times A."""
        last = factors[-1]
        ahead = (0,) + factors[:-1]
        return tuple([(number + last * more) % self.modulus for number, more in zip(ahead, self.top)])

    def table(self, factors):
        """The matrix that takes the factors of any power to those of its product with the power of these factors."""
        columns = [factors]
        for _ in range(self.size - 1):
            columns.append(self.further(columns[-1]))
        return transposed(columns)

    def multiplied(self, table, factors):
        """The factors of the product of two powers, the table of one, the factors of the other."""
        return applied(self.modulus, table, factors)

    def raised(self, exponent):
        """The factors of A to an exponent from 0 on."""
        factors = self.none
        for bit in f"{exponent:b}":
            factors = self.multiplied(self.table(factors), factors)
            if bit == "1":
                factors = self.further(factors)
        return factors

    def all_raised(self, exponents):
        """The factors of A to each exponent of a list; the squares are reckoned once for all of them."""
        words = [low_first(exponent) for exponent in exponents]
        found = [self.none for _ in exponents]
        square = self.raised(1)
        for place in range(max([len(word) for word in words], default=0)):
            table = self.table(square)
            found = [self.multiplied(table, factors) if word[place:place + 1] == "1" else factors
                     for word, factors in zip(words, found)]
            square = self.multiplied(table, square)
        return found

    def act(self, factors, row):
        """The row to which the power of these factors takes a row."""
        result = (0,) * self.size
        for factor in factors[::-1]:
            result = applied(self.modulus, self.matrix, result)
            result = tuple([(number + factor * more) % self.modulus for number, more in zip(result, row)])
        return result


def low_first(number):
    """The bits of a number from 0 on, as a string, the lowest first."""
    word = f"{number:b}"
    return word[::-1]


def ones(number):
    """The places of the bits of a number that are 1, ascending, the lowest being 0."""
    return [place for place, bit in enumerate(low_first(number)) if bit == "1"]


def top_factors(modulus, matrix):
    """The factors of A ** k, from the characteristic polynomial, by the way of Faddeev and LeVerrier."""
    size = len(matrix)
    # The steps divide by 1, .., k: modulo this multiple of M that leaves no rest, and M is what stays of it.
    wide = modulus * factorial(size)
    factors, rest = [], identity(size)
    for step in range(1, size + 1):
        rest = product(wide, matrix, rest)
        factor = sum([rest[at][at] for at in range(size)]) // step
        factors.append(factor % modulus)
        rest = tuple([less_at(row, at, factor) for at, row in enumerate(rest)])
    return tuple(factors[::-1])


def less_at(row, at, number):
    """The row with the number at this index less by another one."""
    return row[:at] + (row[at] - number,) + row[at + 1:]
