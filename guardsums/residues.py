"""Numbers modulo M: what undoes a number, and the primes of a number."""

from math import isqrt

from guardsums.errors import BadModulus
from guardsums.values import is_integer

# Up to here a number is taken apart by trying divisors up to its root.
MOST = 10 ** 12


def inverse(number, modulus):
    """The integer from 1 to modulus - 1 whose product with number leaves 1; None if there is none."""
    # Each of the two remainders is, modulo modulus, number times the factor beside it.
    last, rest = modulus, number % modulus
    last_factor, factor = 0, 1
    while rest != 0:
        times = last // rest
        last, rest = rest, last - times * rest
        last_factor, factor = factor, last_factor - times * factor
    if last != 1:
        return None
    return last_factor % modulus


def primes(number):
    """The tuple of the primes of an integer from 2 to 10 ** 12, ascending, each once."""
    if not is_integer(number) or number < 2 or number > MOST:
        raise BadModulus(number)
    found = []
    rest = number
    while rest > 1:
        prime = least_prime(rest)
        found.append(prime)
        while rest % prime == 0:
            rest = rest // prime
    return tuple(found)


def least_prime(number):
    """The least prime that divides an integer from 2 on."""
    if number % 2 == 0:
        return 2
    for divisor in range(3, isqrt(number) + 1, 2):
        if number % divisor == 0:
            return divisor
    return number
