"""How many turns of a matrix surely bring all rows back modulo a prime, and how few bring one row back."""

from math import lcm

from guardsums.degrees import factor_degrees
from guardsums.errors import TooMany
from guardsums.residues import GREATEST, inverse, prime_parts, raised_number


class Round:
    """Many turns, with the primes of their number, behind which each row is there again modulo a prime's power."""

    def __init__(self, many, parts):
        self.many = many
        self.parts = parts


def round_of(turns, prime, exponent):
    """The Round modulo prime ** exponent; TooMany if a factor of the characteristic polynomial is too great."""
    many, parts = 1, {}
    for degree in factor_degrees(turns, prime):
        size = raised_number(prime, degree)
        if size > GREATEST:
            raise TooMany("turns", size, GREATEST)
        # In the field of this size each number but 0 is 1 behind size - 1 turns.
        many = lcm(many, size - 1)
        for part in prime_parts(size - 1):
            parts[part] = True
    # Behind these turns the matrix is 1 and a part whose k-th power is 0. So as many turns of them as a power of the
    # prime from k on leave 1 modulo the prime, and the prime times as many leave it modulo one power of it more.
    times, reach = exponent - 1, 1
    while reach < turns.size:
        times, reach = times + 1, reach * prime
    if times > 0:
        parts[prime] = True
    return Round(many * raised_number(prime, times), tuple(sorted(list(parts))))


def least_turns(turns, whole, row, modulus, is_back):
    """The least number of turns behind which the row is back, which it is behind those of a Round."""
    many = whole.many
    for part in whole.parts:
        while many % part == 0 and is_back_behind(turns, many // part, row, modulus, is_back):
            many = many // part
    return many


def is_back_behind(turns, many, row, modulus, is_back):
    """Whether the row is back behind so many turns, as is_back judges it."""
    return is_back(turns.act(turns.raised(many), row), row, modulus)


def is_same(one, other, modulus):
    """Whether two rows are the same modulo M."""
    return all([(a - b) % modulus == 0 for a, b in zip(one, other)])


def is_multiple(one, other, prime):
    """Whether a row is a multiple of another one modulo a prime."""
    for number, base in zip(one, other):
        if base % prime != 0:
            factor = number * inverse(base, prime)
            return is_same(one, [factor * more for more in other], prime)
    return is_same(one, other, prime)
