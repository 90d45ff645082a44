"""Rows modulo M brought into the form of stairs, as the spans, kernels and inverses need them."""


def bezout(one, other):
    """The greatest common divisor of two integers from 1 on, and the factors of both that add up to it."""
    last, rest = one, other
    last_factor, factor = 1, 0
    while rest != 0:
        times = last // rest
        last, rest = rest, last - times * rest
        last_factor, factor = factor, last_factor - times * factor
    return last, last_factor, (last - last_factor * one) // other


def multiple(modulus, factor, row):
    """The row times a factor."""
    return [factor * number % modulus for number in row]


def combined(modulus, factor, row, other_factor, other):
    """The sum of a multiple of a row and a multiple of another one."""
    return [(factor * a + other_factor * b) % modulus for a, b in zip(row, other)]


class Stairs:
    """For each of the first places one row at most, 0 ahead of this place, its pivot there dividing M.

    Where there is no row, the row stands that has M at this place and 0 elsewhere: with these, the rows are a basis
    of all integer rows that agree modulo M with what was put in, less what was left of it behind the places.
    """

    def __init__(self, modulus, places):
        self.modulus = modulus
        self.steps = [None] * places

    def put(self, row):
        """Takes in a row (numbers modulo M); returns what is left of it: a row that is 0 at all of the places."""
        for place in range(len(self.steps)):
            if row[place] != 0:
                row = self.put_at(place, row)
        return row

    def put_at(self, place, row):
        """Takes in a row that is 0 ahead of place but not there; returns what is left of it, 0 there, too."""
        modulus, step, number = self.modulus, self.steps[place], row[place]
        if step is None:
            common, _, factor = bezout(modulus, number)
            self.steps[place] = multiple(modulus, factor, row)
            return multiple(modulus, modulus // common, row)
        pivot = step[place]
        if number % pivot == 0:
            return combined(modulus, 1, row, -(number // pivot), step)
        common, step_factor, factor = bezout(pivot, number)
        self.steps[place] = combined(modulus, factor, row, step_factor, step)
        return combined(modulus, pivot // common, row, -(number // common), step)

    def rest_of(self, row):
        """The row less multiples of the steps, 0 at all of the places; None if there are no such multiples."""
        for place, step in enumerate(self.steps):
            if row[place] != 0:
                if step is None or row[place] % step[place] != 0:
                    return None
                row = combined(self.modulus, 1, row, -(row[place] // step[place]), step)
        return row

    def settled(self):
        """The tuple of the steps, numbers above a pivot less than it."""
        lessened = []
        for place in reversed(range(len(self.steps))):
            row = self.steps[place]
            if row is not None:
                for lower, step in lessened[::-1]:
                    if row[lower] >= step[lower]:
                        row = combined(self.modulus, 1, row, -(row[lower] // step[lower]), step)
                lessened.append((place, row))
        return tuple([tuple(row) for _, row in lessened[::-1]])
