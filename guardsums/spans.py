"""Rows modulo M that are put in one by one, each under a mark, less those that the ones ahead span."""

from guardsums.howell import combination, witness
from guardsums.stairs import Stairs


class Span:
    """The rows that were not spanned by those ahead of them when they were put in, and their marks."""

    def __init__(self, modulus, width):
        self.modulus = modulus
        self.width = width
        self.stairs = Stairs(modulus, width)
        self.rows = []
        self.marks = []

    def put(self, mark, row):
        """Takes in a row (numbers modulo M) under a mark."""
        if not self.is_spanned(row):
            self.stairs.put(row)
            self.rows.append(row)
            self.marks.append(mark)

    def is_spanned(self, row):
        """Whether the rows span a row (numbers modulo M)."""
        return self.stairs.rest_of(row) is not None

    def made_of(self, row):
        """A dict from marks to the numbers with which their rows add up to a row that they span."""
        if not self.rows:
            return {}
        found = combination(self.modulus, self.rows, row)
        return {mark: factor for mark, factor in zip(self.marks, found)}

    def against(self, row):
        """A row whose products with all rows are 0, with a row that they do not span not."""
        return witness(self.modulus, self.rows, row)
