"""Numbers modulo M: what undoes a number, and the primes of a number."""

from math import gcd, isqrt

from guardsums.errors import BadModulus
from guardsums.values import is_within

MOST = 10 ** 12
# Numbers are taken apart up to here: prime powers up to 2 ** 40, less 1, are as well.
GREATEST = 2 ** 40
# Divisors are tried up to here: beyond the third root of GREATEST, so what is left then has two primes at most.
TRIED = 20000
# Below 2,152,302,898,747 no composite number is passed by all of these (Jaeschke, 1993).
BASES = (2, 3, 5, 7, 11)


def inverse(number, modulus):
    """The integer from 1 to modulus - 1 whose product with number leaves 1; None if there is none."""
    # Each of the two remainders is, modulo modulus, number times the factor beside it.
    last, rest = modulus, number % modulus
    last_factor, factor = 0, 1
    while rest != 0:
        times = last // rest
        last, rest = rest, last - times * rest
        last_factor, factor = factor, last_factor - times * factor
    if last != 1:
        return None
    return last_factor % modulus


def primes(number):
    """The tuple of the primes of an integer from 2 to 10 ** 12, ascending, each once."""
    if not is_within(number, 2, MOST):
        raise BadModulus(number)
    return prime_parts(number)


def prime_powers(number):
    """For each prime of a number as in primes: the prime, and how often it divides the number."""
    return tuple([(prime, exponent_of(number, prime)) for prime in primes(number)])


def exponent_of(number, prime):
    """How often the prime divides the number."""
    exponent = 0
    while number % prime == 0:
        number = number // prime
        exponent = exponent + 1
    return exponent


def raised_number(number, exponent):
    """The number to the power of an exponent from 0 on."""
    power = 1
    for bit in f"{exponent:b}":
        power = power * power
        if bit == "1":
            power = power * number
    return power


def is_prime(value):
    """Whether any value is a prime up to 2 ** 40."""
    return is_within(value, 2, GREATEST) and prime_parts(value) == (value,)


def prime_parts(number):
    """The tuple of the primes of an integer from 1 to 2 ** 40, ascending, each once."""
    found = []
    rest = without(number, 2, found)
    for divisor in range(3, TRIED, 2):
        if divisor * divisor > rest:
            break
        if rest % divisor == 0:
            rest = without(rest, divisor, found)
    return tuple(found + great_primes(rest))


def without(number, prime, found):
    """The number without all of this prime in it; the prime is added to found if it is in it."""
    if number % prime == 0:
        found.append(prime)
    while number % prime == 0:
        number = number // prime
    return number


def great_primes(number):
    """The list of the primes of a number that no divisor from 2 to TRIED or to its root divides."""
    if number == 1:
        return []
    if number < TRIED * TRIED or is_great_prime(number):
        return [number]
    least = least_of_two(number)
    if least * least == number:
        return [least]
    return [least, number // least]


def is_great_prime(number):
    """Whether an odd number from TRIED to GREATEST is a prime."""
    odd, halvings = number - 1, 0
    while odd % 2 == 0:
        odd = odd // 2
        halvings = halvings + 1
    for base in BASES:
        if not passes(number, base, odd, halvings):
            return False
    return True


def passes(number, base, odd, halvings):
    """Whether squaring base ** odd so often reaches 1 modulo number as it must modulo a prime."""
    power = 1
    while odd > 0:
        if odd % 2 == 1:
            power = power * base % number
        base = base * base % number
        odd = odd // 2
    if power == 1:
        return True
    for _ in range(halvings):
        if power == number - 1:
            return True
        power = power * power % number
    return False


def least_of_two(number):
    """The least prime of the product of two primes above TRIED."""
    # Lehman, 1974: for one of these multiples, 4 * multiple * number is the difference of two squares, the
    # root of the greater one being in these ranges; no more of them need be tried.
    most = number // (TRIED * TRIED)
    for multiple in range(1, most + 1):
        fourfold = 4 * multiple * number
        first = isqrt(fourfold - 1) + 1
        last = first + isqrt(number // multiple) // (4 * (most + 1)) + 1
        if multiple % 2 == 0:
            first, step = first + (first + 1) % 2, 2
        else:
            first, step = first + (multiple + number - first) % 4, 4
        for root in range(first, last + 1, step):
            square = root * root - fourfold
            other = isqrt(square)
            if other * other == square:
                prime = gcd(root + other, number)
                return min(prime, number // prime)
    return number
