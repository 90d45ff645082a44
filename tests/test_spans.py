"""Rows put in one by one, as the rules that rest on spans need them."""

import unittest

from guardsums.spans import Span
from tests.support import chance, dot, random_matrix, rows_of, span


class Spans(unittest.TestCase):
    def test_against_all_sums(self):
        source = chance(1)
        for modulus, width in ((2, 3), (4, 2), (6, 2), (12, 1), (5, 2)):
            for _ in range(12):
                rows = random_matrix(source, modulus, source.randrange(5), width)
                found = Span(modulus, width)
                for at, row in enumerate(rows):
                    spanned = row in span(modulus, rows[:at], width)
                    self.assertIs(found.is_spanned(row), spanned)
                    found.put(("row", at), row)
                    self.assertIs(found.marks[-1:] == [("row", at)], not spanned)
                everything = span(modulus, rows, width)
                for row in rows_of(modulus, width):
                    self.assertIs(found.is_spanned(row), row in everything)
                    if row in everything:
                        made = found.made_of(row)
                        self.assertEqual(list(made), found.marks)
                        total = [sum(made[mark] * rows[mark[1]][at] for mark in made) % modulus for at in range(width)]
                        self.assertEqual(tuple(total), row)
                    else:
                        left = found.against(row)
                        self.assertFalse(any(dot(modulus, left, other) for other in rows))
                        self.assertNotEqual(dot(modulus, left, row), 0)

    def test_no_rows(self):
        found = Span(4, 2)
        self.assertEqual((found.made_of((0, 0)), found.is_spanned((0, 0)), found.is_spanned((0, 2))), ({}, True, False))
        self.assertNotEqual(dot(4, found.against((0, 2)), (0, 2)), 0)


if __name__ == "__main__":
    unittest.main()
