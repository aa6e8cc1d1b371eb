"""The refusals: the interface of errors, with the fields of points 10 and 37."""

import copy
import pickle
import unittest

from fairtrees import errors

REFUSALS = (
    "NoMachine", "NoWishes", "NoProgram", "NoSaying", "NoText", "NoRun", "NoWay", "NoSheet", "NoPaper", "NoDeed",
    "Twice", "Missing", "Nothing", "Full", "Broken", "TooGreat", "TooMany", "AreAlike",
)


class Errors(unittest.TestCase):
    def test_tree_error_is_made_from_value_error(self):
        self.assertIn(ValueError, errors.TreeError.__bases__)

    def test_there_are_eighteen_and_each_is_made_from_tree_error(self):
        self.assertEqual(len(set(REFUSALS)), 18)
        for name in REFUSALS:
            with self.subTest(name):
                self.assertEqual(getattr(errors, name).__name__, name)
                self.assertEqual(getattr(errors, name).__bases__, (errors.TreeError,))

    def test_each_is_taken_by_tree_error_and_by_value_error(self):
        for name in REFUSALS:
            for taker in (errors.TreeError, ValueError):
                with self.subTest(name), self.assertRaises(taker):
                    raise getattr(errors, name)("why")

    def test_each_is_taken_by_none_of_the_other_seventeen(self):
        for name in REFUSALS:
            for other in REFUSALS:
                error = getattr(errors, name)("why")
                self.assertEqual(isinstance(error, getattr(errors, other)), name == other, (name, other))

    def test_each_can_be_made_without_words_and_tells_those_it_is_made_with(self):
        for name in REFUSALS:
            with self.subTest(name):
                self.assertIsInstance(getattr(errors, name)(), errors.TreeError)
                self.assertEqual(str(getattr(errors, name)("why")), "why")

    def test_fields_are_there_as_soon_as_the_object_is_made(self):
        self.assertEqual(vars(errors.NoSaying("why", 3)), {"row": 3})
        self.assertEqual(vars(errors.Broken("why", 5)), {"number": 5})
        self.assertEqual(errors.NoSaying().row, -1)
        self.assertEqual(errors.Broken().number, -1)
        self.assertIs(type(errors.NoSaying("why").row), int)
        self.assertIs(type(errors.Broken("why").number), int)

    def test_fields_stay_in_copies(self):
        for error in (copy.copy(errors.NoSaying("why", 3)), pickle.loads(pickle.dumps(errors.NoSaying("why", 3)))):
            self.assertEqual((str(error), error.row), ("why", 3))
        for error in (copy.copy(errors.Broken("why", 5)), pickle.loads(pickle.dumps(errors.Broken("why", 5)))):
            self.assertEqual((str(error), error.number), ("why", 5))


if __name__ == "__main__":
    unittest.main()
