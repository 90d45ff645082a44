"""The examples of the document tell what the program does."""

import doctest
import pathlib
import unittest

FILE = pathlib.Path(__file__).resolve().parent / "examples.txt"


class Examples(unittest.TestCase):
    def test_examples(self):
        told = doctest.testfile(str(FILE), module_relative=False)
        self.assertEqual(told.failed, 0)
        self.assertGreater(told.attempted, 0)


if __name__ == "__main__":
    unittest.main()
