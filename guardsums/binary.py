"""Remainders by polynomials over bits; a polynomial is an integer, its bits are the factors of its powers of z."""


class Heard:
    """A sample of bits: the length of its block, at which distances from its end a 1 stands, and what was told."""

    def __init__(self, block, told):
        self.length = len(block)
        self.ones = [distance for distance, (bit,) in enumerate(block[::-1]) if bit == 1]
        self.number = number_of(told)


def number_of(bits):
    """The integer of these bits, the highest one first."""
    number = 0
    for bit in bits:
        number = number * 2 + bit
    return number


def is_told(width, polynomial, samples):
    """Whether remainders by z ** width and a polynomial below tell all samples with some start and end."""
    powers = powers_of(width, polynomial, max([sample.length for sample in samples]) + width)
    # What all samples tell of it stands in one integer, for each bit of the start and of the end that is turned.
    starts = [beside(width, [powers[sample.length + bit] for sample in samples]) for bit in range(width)]
    ends = [beside(width, [1 << bit for _ in samples]) for bit in range(width)]
    wish = []
    for sample in samples:
        number = sample.number
        for distance in sample.ones:
            number = number ^ powers[distance + width]
        wish.append(number)
    return is_sum(starts + ends, beside(width, wish))


def powers_of(width, polynomial, many):
    """The powers of z, so many of them, as remainders by z ** width and a polynomial below."""
    powers, power, top = [], 1, 1 << width
    for _ in range(many):
        powers.append(power)
        power = power << 1
        if power >= top:
            power = power ^ top ^ polynomial
    return powers


def beside(width, numbers):
    """The integer that has the bits of all these numbers, width for each, one behind the other."""
    whole = 0
    for number in numbers:
        whole = whole << width | number
    return whole


def is_sum(numbers, wish):
    """Whether wish is the sum of some of the numbers, bit by bit modulo 2."""
    # At most one number for each highest bit.
    steps = {}
    for number in numbers:
        rest = lessened(steps, number)
        if rest > 0:
            steps[rest.bit_length()] = rest
    return lessened(steps, wish) == 0


def lessened(steps, number):
    """What is left of a number once steps are taken off it, from the highest bit on."""
    while number.bit_length() in steps:
        number = number ^ steps[number.bit_length()]
    return number
