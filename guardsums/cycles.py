"""The rows u A ** j G of a guard for all rows u of k numbers: how many of them are not 0."""


class Cycles:
    """The cycles in which A takes the rows u around, and which of their rows u G are not 0."""

    def __init__(self, guard):
        codes = [code_of(guard.modulus, row) for row in sums(guard.modulus, guard.matrix)]
        marks = [int(any(row)) for row in sums(guard.modulus, guard.columns)]
        self.rings = []
        seen = [False] * len(codes)
        for first in range(len(codes)):
            ring, code = [], first
            while not seen[code]:
                seen[code] = True
                ring.append(marks[code])
                code = codes[code]
            if ring:
                self.rings.append(ring)

    def counts(self, length):
        """How many rows u there are for each number of rows u A ** j G, j below length, that are not 0."""
        found = {}
        for ring in self.rings:
            rounds, rest = divmod(length, len(ring))
            met = rounds * sum(ring) + sum(ring[:rest])
            for at, mark in enumerate(ring):
                found[met] = found.get(met, 0) + 1
                # The window moves on by one row.
                met = met - mark + ring[(at + rest) % len(ring)]
        return found


def sums(modulus, rows):
    """The sums of multiples of rows, the factors ascending as tuples."""
    found = [(0,) * len(rows[0])]
    for row in rows:
        multiples = [[factor * number % modulus for number in row] for factor in range(modulus)]
        found = [tuple([(a + b) % modulus for a, b in zip(one, other)]) for one in found for other in multiples]
    return found


def code_of(modulus, row):
    """The index of a row among all rows, ascending as tuples."""
    code = 0
    for number in row:
        code = code * modulus + number
    return code
