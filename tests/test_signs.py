"""Point 2: numbers, texts, names and tuples."""

import unittest

from fairtrees import signs
from tests import helper


class Numbers(unittest.TestCase):
    def test_ints_are_numbers(self):
        for thing in (0, 1, -1, 10 ** 999, -10 ** 999):
            self.assertIs(signs.is_number(thing), True)

    def test_true_and_false_are_no_numbers(self):
        self.assertIs(signs.is_number(True), False)
        self.assertIs(signs.is_number(False), False)
        self.assertIs(signs.is_number_from(True, 0, 1), False)
        self.assertIs(signs.is_number_from(False, 0, 1), False)

    def test_no_number_stands_for_true_or_false(self):
        self.assertIs(signs.is_truth(True), True)
        self.assertIs(signs.is_truth(False), True)
        for thing in (0, 1, None, "", (), "True", helper.Greedy()):
            self.assertIs(signs.is_truth(thing), False)

    def test_of_anything(self):
        for thing in helper.anything():
            self.assertIs(signs.is_number(thing), type(thing) is int)
            self.assertIs(signs.is_truth(thing), type(thing) is bool)
            self.assertIs(signs.is_number_from(thing, -1, 8), type(thing) is int and -1 <= thing <= 8)

    def test_both_ends_are_counted_in(self):
        told = [number for number in range(-5, 6) if signs.is_number_from(number, -2, 3)]
        self.assertEqual(told, [-2, -1, 0, 1, 2, 3])


class Names(unittest.TestCase):
    def test_names_of_one_and_of_eight_letters(self):
        for name in ("a", "z", "abcdefgh", "zzzzzzzz", "mark", "bare", "can", "last", "is", "under", "yess", "nexts"):
            self.assertIs(signs.is_name(name), True, name)
        for letter in "abcdefghijklmnopqrstuvwxyz":
            self.assertIs(signs.is_name(letter), True, letter)

    def test_what_is_no_name(self):
        for text in ("", "abcdefghi", "A", "aB", "a1", "1", " ", "a b", " a", "a ", "a\n", "\na", "a\t", "a_", "a-b",
                     "\u00e4", "\u00df", "a\u0301", "\u0430", "\uff41", "`", "{", "\x00", "a\x00", "a" * 8000):
            self.assertIs(signs.is_name(text), False, repr(text))

    def test_the_thirteen_words_are_no_names(self):
        self.assertEqual(len(helper.WORDS), 13)
        for word in helper.WORDS:
            self.assertIs(signs.is_name(word), False, word)

    def test_of_anything(self):
        for thing in helper.anything():
            self.assertIs(signs.is_name(thing), helper.is_name(thing), repr(thing)[:40])
            self.assertIs(signs.is_text(thing), type(thing) is str)
            self.assertIs(signs.is_text_of(thing, ("", "a", "last")), type(thing) is str and thing in ("", "a", "last"))


class Tuples(unittest.TestCase):
    def test_lists_stand_for_no_tuples(self):
        self.assertIs(signs.is_tuple([]), False)
        self.assertIs(signs.is_tuple(()), True)
        self.assertIs(signs.is_tuple_of([1], 1, 1), False)

    def test_both_ends_are_counted_in(self):
        told = [many for many in range(6) if signs.is_tuple_of((None,) * many, 2, 4)]
        self.assertEqual(told, [2, 3, 4])

    def test_of_anything(self):
        for thing in helper.anything():
            self.assertIs(signs.is_tuple(thing), type(thing) is tuple)
            self.assertIs(signs.is_tuple_of(thing, 1, 1), type(thing) is tuple and len(thing) == 1)


class Same(unittest.TestCase):
    def test_what_is_told_is_the_same(self):
        for told in ((), 0, "", "a", (0, "a", ((), (1,)))):
            self.assertIs(signs.same(told, told), True)

    def test_what_is_otherwise_is_not_the_same(self):
        told = (1, 0, "a", ((), (1,)))
        for thing in helper.changes(told):
            if repr(thing) != repr(told):
                self.assertIs(signs.same(thing, told), False, repr(thing)[:60])


if __name__ == "__main__":
    unittest.main()
