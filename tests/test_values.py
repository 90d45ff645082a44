"""Point 2: what an integer is."""

import unittest

from guardsums.ratios import Ratio
from guardsums.values import is_integer


class IsInteger(unittest.TestCase):
    def test_integers(self):
        for value in (0, 1, -1, 2, 10 ** 40 - 1, -(10 ** 40 - 1)):
            self.assertIs(is_integer(value), True)

    def test_other_values(self):
        for value in (True, False, None, "1", "", (), (1,), [], [1], {}, {1: 1}, Ratio(1), b"1", 1.0):
            self.assertIs(is_integer(value), False)


if __name__ == "__main__":
    unittest.main()
