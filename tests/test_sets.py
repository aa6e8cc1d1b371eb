"""Point 2: what rises, and what is a set of standings."""

import unittest

from fairtrees import sets
from tests import helper


class Rising(unittest.TestCase):
    def test_each_is_greater_than_the_one_ahead(self):
        for thing in ((), (5,), (0, 1), (-3, 0, 10 ** 999), ("",), ("a", "aa", "b"), ("Z", "a")):
            self.assertIs(sets.is_rising(thing), True, thing)

    def test_none_stands_twice_and_none_is_less_than_the_one_ahead(self):
        for thing in ((0, 0), (1, 0), (0, 1, 1), (0, 2, 1), ("a", "a"), ("b", "a"), ("b", "aa")):
            self.assertIs(sets.is_rising(thing), False, thing)

    def test_numbers_and_texts_do_not_mix_and_other_things_do_not_rise(self):
        for thing in ((0, "a"), ("a", 0), (False, True), (0, True), (None,), ((), (0,)), [0, 1], "ab", b"ab", {0: 1}):
            self.assertIs(sets.is_rising(thing), False, thing)

    def test_of_anything(self):
        for thing in helper.changes((0, 5, 41)):
            numbers = type(thing) is tuple and all(type(one) is int for one in thing)
            texts = type(thing) is tuple and all(type(one) is str for one in thing)
            rises = (numbers or texts) and sorted(set(thing)) == list(thing)
            self.assertIs(sets.is_rising(thing), rises, repr(thing)[:60])
            self.assertIs(sets.is_set(thing, 41), rises and numbers and set(thing) <= set(range(41)))


class Sets(unittest.TestCase):
    def test_sets_of_standings(self):
        for thing in ((), (0,), (0, 1, 2), (2,)):
            self.assertIs(sets.is_set(thing, 3), True, thing)
        for thing in ((3,), (-1,), (0, 3), (1, 0), (0, 0), ("a",), (True,), [0], None):
            self.assertIs(sets.is_set(thing, 3), False, thing)

    def test_names(self):
        eight = ("a", "b", "c", "d", "e", "f", "g", "h")
        for thing in ((), ("a",), ("a", "aa"), eight):
            self.assertIs(sets.is_names(thing, 8), True, thing)
        for thing in ((*eight, "i"), ("a", "a"), ("b", "a"), ("",), ("all",), (0,), ["a"], "ab"):
            self.assertIs(sets.is_names(thing, 8), False, thing)

    def test_of_anything(self):
        for thing in helper.changes(("a", "b")):
            right = type(thing) is tuple and len(thing) < 3 and all(map(helper.is_name, thing)) \
                and sorted(set(thing)) == list(thing)
            self.assertIs(sets.is_names(thing, 2), right, repr(thing)[:60])

    def test_set_of(self):
        given = [3, 1, 3, 2, 1]
        self.assertEqual(sets.set_of(given), (1, 2, 3))
        self.assertEqual(given, [3, 1, 3, 2, 1])
        self.assertEqual(sets.set_of(()), ())

    def test_joined_common_and_without(self):
        cases = (
            ((), (), (), (), ()), ((1, 3), (), (1, 3), (), (1, 3)), ((), (1, 3), (1, 3), (), ()),
            ((1, 3), (1, 3), (1, 3), (1, 3), ()), ((2, 39), (0, 5, 39), (0, 2, 5, 39), (39,), (2,)),
            ((10, 20, 30), (8, 16, 24), (8, 10, 16, 20, 24, 30), (), (10, 20, 30)),
        )
        for one, other, both, shared, left in cases:
            self.assertEqual(sets.joined(one, other), both)
            self.assertEqual(sets.common(one, other), shared)
            self.assertEqual(sets.without(one, other), left)


if __name__ == "__main__":
    unittest.main()
