"""The interface of bounds."""

import unittest

from fairtrees import bounds


class Bounds(unittest.TestCase):
    def test_free_is_the_wishes_that_are_none(self):
        self.assertIs(type(bounds.FREE), tuple)
        self.assertEqual(bounds.FREE, ())

    def test_most_and_book(self):
        self.assertIs(type(bounds.MOST), int)
        self.assertEqual(bounds.MOST, 40)
        self.assertIs(type(bounds.BOOK), int)
        self.assertEqual(bounds.BOOK, 300)


if __name__ == "__main__":
    unittest.main()
