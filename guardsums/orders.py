"""How soon a step comes round: how often a matrix is applied until a row is there again."""

from math import lcm

from guardsums.errors import BadModulus, NotUndone
from guardsums.matrices import undone
from guardsums.residues import MOST, is_prime, prime_powers, raised_number
from guardsums.rounds import is_back_behind, is_multiple, is_same, least_turns, round_of
from guardsums.turns import Turns
from guardsums.values import frozen, is_integer, is_within


class Order:
    """The least number of turns from 1 on behind which a row is there again, and the primes of this number."""

    def __init__(self, number, primes):
        self.number = frozen(number)
        self.primes = frozen(primes)


def order(modulus, matrix, row):
    """The Order of a row: the least n from 1 on such that the matrix, applied n times, gives the row again."""
    powers = prime_powers(modulus)
    check_undone(modulus, matrix)
    turns = Turns(modulus, matrix)
    wholes = [round_of(turns, prime, exponent) for prime, exponent in powers]
    number, parts = 1, []
    for (prime, exponent), whole in zip(powers, wholes):
        number = lcm(number, least_turns(turns, whole, row, raised_number(prime, exponent), is_same))
        parts.extend(whole.parts)
    return Order(number, dividing(parts, number))


def line_order(prime, matrix, row):
    """The Order of the line of a row modulo a prime: the least n from 1 on for which a multiple of the row is there."""
    if not is_within(prime, 2, MOST) or not is_prime(prime):
        raise BadModulus(prime)
    check_undone(prime, matrix)
    turns = Turns(prime, matrix)
    whole = round_of(turns, prime, 1)
    number = least_turns(turns, whole, row, prime, is_multiple)
    return Order(number, dividing(whole.parts, number))


def is_order(modulus, matrix, row, told):
    """Whether an Order is that of the row."""
    if not is_within(modulus, 2, MOST):
        raise BadModulus(modulus)
    check_undone(modulus, matrix)
    number, parts = told.number, told.primes
    if not is_integer(number) or number < 1 or not are_primes(parts, number):
        return False
    turns = Turns(modulus, matrix)
    if not is_back_behind(turns, number, row, modulus, is_same):
        return False
    return not any([is_back_behind(turns, number // part, row, modulus, is_same) for part in parts])


def check_undone(modulus, matrix):
    """Raises NotUndone unless the matrix can be undone modulo M."""
    if undone(modulus, matrix) is None:
        raise NotUndone()


def dividing(parts, number):
    """The tuple of those of some primes that divide a number, ascending, each once."""
    found = {part: True for part in parts if number % part == 0}
    return tuple(sorted(list(found)))


def are_primes(value, number):
    """Whether any value is the tuple of the primes of a number, ascending, none of them above 2 ** 40."""
    if not isinstance(value, tuple):
        return False
    last = 1
    for part in value:
        if not is_integer(part) or part <= last or number % part != 0:
            return False
        last = part
        while number % part == 0:
            number = number // part
    return number == 1 and all([is_prime(part) for part in value])
