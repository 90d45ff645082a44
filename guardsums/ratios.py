"""Exact fractions."""

from math import gcd

from guardsums.errors import BadOver


class Ratio:
    """The fraction number / over of two integers, in lowest terms, over above 0."""

    def __init__(self, number, over=1):
        if over == 0:
            raise BadOver()
        common = gcd(number, over)
        if over < 0:
            common = -common
        self.number = number // common
        self.over = over // common

    def __add__(self, other):
        number, over = parts(other)
        return Ratio(self.number * over + number * self.over, self.over * over)

    def __radd__(self, other):
        return self + other

    def __sub__(self, other):
        number, over = parts(other)
        return Ratio(self.number * over - number * self.over, self.over * over)

    def __rsub__(self, other):
        return -self + other

    def __mul__(self, other):
        number, over = parts(other)
        return Ratio(self.number * number, self.over * over)

    def __rmul__(self, other):
        return self * other

    def __neg__(self):
        return Ratio(-self.number, self.over)

    def __abs__(self):
        return Ratio(abs(self.number), self.over)

    def __eq__(self, other):
        return isinstance(other, Ratio) and self.number == other.number and self.over == other.over

    def is_less(self, other):
        """Whether this is less than another Ratio or than an integer."""
        number, over = parts(other)
        # Both overs are above 0, so the products compare as the fractions do.
        return self.number * over < number * self.over

    def divided(self, other):
        """The quotient by another Ratio or by an integer; BadOver() if that is 0."""
        number, over = parts(other)
        # The divisor's number gets below the line: if it is 0, Ratio raises BadOver.
        return Ratio(self.number * over, self.over * number)

    def __str__(self):
        if self.over == 1:
            return str(self.number)
        return f"{self.number}/{self.over}"


def parts(value):
    """The number and the over of a Ratio or of an integer."""
    if isinstance(value, Ratio):
        return value.number, value.over
    return value, 1
