"""What guards tell of great blocks: each symbol is weighed by the powers of the matrix that it meets behind it.

A symbol x with n symbols behind it adds A ** n G x to the state. So the weight of a part is the sum of these
powers over all places at which its last symbol stands; the weights of the parts of a name follow from its own.
"""

from guardsums.matrices import applied
from guardsums.turns import Turns, ones

# The key of all symbols beside the keys that are names: one symbol is one step for each of them.
SYMBOL = ""


class Doubles:
    """The power of A that a part is, and those that it is 2, 4, 8 .. times, as tables of their factors."""

    def __init__(self, turns, factors):
        self.turns = turns
        self.factors = factors
        self.tables = []

    def table(self, place):
        """The table of the power that 2 ** place times the part is."""
        while len(self.tables) <= place:
            table = self.turns.table(self.factors)
            self.tables.append(table)
            self.factors = self.turns.multiplied(table, self.factors)
        return self.tables[place]

    def multiplied(self, factors, count):
        """The factors of a power times the one that count times the part is."""
        for place in ones(count):
            factors = self.turns.multiplied(self.table(place), factors)
        return factors


class Tally:
    """What a guard tells of lists of pairs (part, count) whose names stand in a tree."""

    def __init__(self, guard, tree):
        self.guard = guard
        self.tree = tree
        self.turns = Turns(guard.modulus, guard.matrix)
        self.doubles = {SYMBOL: Doubles(self.turns, self.turns.raised(1))}
        # For each key and place: the weight of 2 ** place times the part, a row of factors for each number of it.
        self.weights = {}

    def told(self, pairs):
        """What is told of the list of pairs, of the symbols that were added by themselves as well."""
        names = self.tree.below(pairs)
        for name in names:
            self.doubles[name] = Doubles(self.turns, self.factors_of(name))
        whole = self.weigh(pairs, self.turns.none)
        for name in names[::-1]:
            self.weigh(self.tree.pairs[name], self.settled(name)[0])
        rows = self.settled(SYMBOL) if SYMBOL in self.weights else [(0,) * self.guard.size] * self.guard.width
        return self.told_of(rows, whole)

    def factors_of(self, name):
        """The factors of the power of A that all symbols of a name are."""
        counts = {}
        for part, count in self.tree.pairs[name]:
            key = key_of(part)
            counts[key] = counts.get(key, 0) + count
        factors = self.turns.none
        for key in counts:
            factors = self.doubles[key].multiplied(factors, counts[key])
        return factors

    def weigh(self, pairs, weight):
        """Adds the weights of the parts of a list of pairs of this weight; returns the weight of what is ahead."""
        for part, count in pairs[::-1]:
            doubles = self.doubles[key_of(part)]
            for place in ones(count):
                self.add(part, place, weight)
                weight = self.turns.multiplied(doubles.table(place), weight)
        return weight

    def add(self, part, place, weight):
        """Adds to the weight of 2 ** place times a part."""
        numbers = (1,) if isinstance(part, str) else part
        rows = [[number * factor % self.guard.modulus for factor in weight] for number in numbers]
        places = self.weights.setdefault(key_of(part), {})
        places[place] = self.summed(places[place], rows) if place in places else rows

    def settled(self, key):
        """The weight of a part, the one of 2, 4, 8 .. times the part taken apart into those of the part itself."""
        places, doubles = self.weights[key], self.doubles[key]
        top = max(list(places))
        rows = places[top]
        for place in reversed(range(top)):
            # One half of them stands behind the other one.
            table = doubles.table(place)
            rows = self.summed(rows, [self.turns.multiplied(table, row) for row in rows])
            if place in places:
                rows = self.summed(rows, places[place])
        return rows

    def summed(self, one, other):
        """The sum of two lists of rows."""
        modulus = self.guard.modulus
        return [[(a + b) % modulus for a, b in zip(row, more)] for row, more in zip(one, other)]

    def told_of(self, rows, whole):
        """What is told, from the weights of the numbers of symbols and the factors of the power of the whole."""
        guard = self.guard
        step = [row + more + (number,) for row, more, number in zip(guard.matrix, guard.columns, guard.start)]
        state = (0,) * guard.size
        # The factors of the highest power first: each step behind them multiplies by A once.
        for degree in reversed(range(guard.size)):
            symbol = tuple([row[degree] for row in rows])
            state = applied(guard.modulus, step, state + symbol + (whole[degree],))
        return tuple([(number + more) % guard.modulus for number, more in zip(state, guard.end)])


def key_of(part):
    """The key of a part: a name itself, one key for all symbols."""
    return part if isinstance(part, str) else SYMBOL
