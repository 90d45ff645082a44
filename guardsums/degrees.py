"""The degrees of the irreducible factors of a characteristic polynomial modulo a prime.

A polynomial is a list of numbers modulo the prime, that of the lowest power first, the last one not 0.
"""

from guardsums.matrices import applied, transposed
from guardsums.residues import inverse


def factor_degrees(turns, prime):
    """The degrees, ascending, each once, for the matrix of Turns whose modulus is a multiple of the prime."""
    rest = [-number % prime for number in turns.top] + [1]
    once = turns.raised(1)
    raised, rows = once, frobenius(turns, prime)
    found, degree = [], 0
    while len(rest) > 1:
        degree = degree + 1
        if 2 * degree >= len(rest):
            # All factors that are left have this degree or a greater one: there is room for one of them alone.
            return found + [len(rest) - 1]
        # The irreducible factors of this degree divide z ** (prime ** degree) - z, lesser ones are gone.
        raised = applied(prime, rows, raised)
        less = trimmed([(a - b) % prime for a, b in zip(raised, once)])
        common = greatest_common(prime, rest, less)
        if len(common) > 1:
            found.append(degree)
        while len(common) > 1:
            rest, _ = divided(prime, rest, common)
            common = greatest_common(prime, rest, common)
    return found


def frobenius(turns, prime):
    """The matrix that takes the factors of each sum of powers to those of this sum's power of the prime."""
    table = turns.table(turns.raised(prime))
    columns = [turns.none]
    for _ in range(turns.size - 1):
        columns.append(turns.multiplied(table, columns[-1]))
    return transposed(columns)


def trimmed(polynomial):
    """The polynomial without zeros at its end."""
    size = len(polynomial)
    while size > 0 and polynomial[size - 1] == 0:
        size = size - 1
    return polynomial[:size]


def divided(prime, one, other):
    """The quotient and the rest of one polynomial by another one."""
    rest, quotient = list(one), []
    back = inverse(other[-1], prime)
    for place in reversed(range(len(one) - len(other) + 1)):
        factor = rest[place + len(other) - 1] * back % prime
        quotient.append(factor)
        for index, number in enumerate(other):
            rest[place + index] = (rest[place + index] - factor * number) % prime
    return quotient[::-1], trimmed(rest)


def greatest_common(prime, one, other):
    """A greatest common divisor of two polynomials, not both of them 0."""
    while other:
        _, rest = divided(prime, one, other)
        one, other = other, rest
    return one
