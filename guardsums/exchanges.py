"""How soon a step brings back what some symbol has added to the state, modulo a prime."""

from guardsums.howell import kernel_of
from guardsums.matrices import identity, product, transposed
from guardsums.residues import exponent_of, raised_number
from guardsums.rounds import round_of


class Exchanges:
    """For the symbols d other than 0: the numbers n for which A ** n G d is G d modulo a prime.

    Such a number is one just if the greatest power of each prime in it is high enough for d. So the symbols are
    sought prime by prime, each time among those alone that are left by the primes ahead.
    """

    def __init__(self, turns, prime, columns):
        self.turns = turns
        self.prime = prime
        self.columns = transposed(columns)
        self.gaps = {}

    def least(self):
        """The least of these numbers for any of the symbols."""
        whole = round_of(self.turns, self.prime, 1)
        powers = [(part, exponent_of(whole.many, part)) for part in whole.parts[::-1]]
        return self.least_of(whole.many, powers, 1, identity(len(self.columns)), whole.many)

    def least_of(self, whole, powers, many, rows, best):
        """The least of best and the numbers for the symbols that rows span: many times powers of these primes."""
        if len(powers) == 0:
            return many
        part, exponent = powers[0]
        size = 0
        for times in range(exponent + 1):
            number = many * raised_number(part, times)
            # Where no more symbols are back than behind fewer turns, or none can be sooner, none need be sought.
            if number >= best or size == len(rows):
                break
            found = self.back_behind(whole // raised_number(part, exponent - times), rows)
            if len(found) > size:
                size = len(found)
                best = self.least_of(whole, powers[1:], number, found, best)
        return best

    def back_behind(self, many, rows):
        """Independent rows that span those symbols spanned by independent rows that are back behind many turns."""
        kernel = kernel_of(self.prime, product(self.prime, self.gap(many), transposed(rows)))
        return product(self.prime, kernel, rows)

    def gap(self, many):
        """The matrix (A ** many - 1) G."""
        if many not in self.gaps:
            factors = self.turns.raised(many)
            moved = [self.turns.act(factors, column) for column in self.columns]
            pairs = list(zip(moved, self.columns))
            self.gaps[many] = transposed([[new - old for new, old in zip(*pair)] for pair in pairs])
        return self.gaps[many]
