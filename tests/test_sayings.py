"""Point 10: what is a saying."""

import unittest

from fairtrees import sayings
from fairtrees.errors import NoSaying
from tests import helper

FORMS = (("next", 1), ("once", 1), ("ever", 1), ("until", 2), ("unless", 2))
ORDINARY = (("mark", "a"), ("yes",), ("all", "until", 1, 0), ("not", 2), ("step", 3), ("some", "ever", 4), ("or", 1, 5))


def stands(row, number):
    """Say by Python's own means whether the row can stand there."""
    if type(row) is not tuple or any(type(one) not in (str, int) for one in row):
        return False
    if len(row) == 2 and row[0] == "mark":
        return helper.is_name(row[1])
    words = [one for one in row if type(one) is str]
    parts = list(row[len(words):])
    if any(type(one) is not int or one not in range(number) for one in parts):
        return False
    return (" ".join(words), len(parts)) in {
        ("yes", 0), ("no", 0), ("not", 1), ("and", 2), ("or", 2), ("step", 1),
        ("some next", 1), ("some once", 1), ("some ever", 1), ("some until", 2), ("some unless", 2),
        ("all next", 1), ("all once", 1), ("all ever", 1), ("all until", 2), ("all unless", 2),
    }


def first_wrong(thing):
    """Tell the row that the refusal of the thing is to have, or None where it is a saying."""
    if type(thing) is not tuple or not 1 <= len(thing) <= 160:
        return -1
    return next((number for number, row in enumerate(thing) if not stands(row, number)), None)


class Check(unittest.TestCase):
    def right(self, thing):
        self.assertIsNone(first_wrong(thing))
        self.assertIs(sayings.check(thing), True)

    def wrong(self, thing, row):
        self.assertEqual(first_wrong(thing), row)
        with self.assertRaises(NoSaying) as caught:
            sayings.check(thing)
        self.assertIs(type(caught.exception.row), int)
        self.assertEqual(caught.exception.row, row)

    def test_each_kind_of_row(self):
        self.right(ORDINARY)
        for row in (("yes",), ("no",), ("mark", "a"), ("mark", "mark"), ("mark", "abcdefgh")):
            self.right((row,))
        for row in (("not", 0), ("and", 0, 1), ("or", 1, 0), ("or", 1, 1), ("step", 1)):
            self.right((("yes",), ("no",), row))
        for word in ("some", "all"):
            for form, many in FORMS:
                self.right((("yes",), (word, form, *(0,) * many)))

    def test_another_number_of_parts(self):
        heads = [(("yes",), 0), (("no",), 0), (("not",), 1), (("and",), 2), (("or",), 2), (("step",), 1)]
        heads += [((word, form), many) for word in ("some", "all") for form, many in FORMS]
        for head, many in heads:
            for other in range(5):
                rows = (("yes",), (*head, *(0,) * other))
                if other == many:
                    self.right(rows)
                else:
                    self.wrong(rows, 1)

    def test_rows_of_no_kind(self):
        for row in ((), ("maybe",), ("mark",), ("mark", "a", "b"), ("mark", "a", 0), ("mark", 0), ("some",), ("all", 0),
                    ("some", "not", 0), ("next", 0), ("until", 0, 0), ("next", "some", 0), ("some", 0, "next"),
                    ("some", "some", "next", 0), ("", 0), ("yes", None), ("Yes",), ["yes"], "yes", None, 0, True,
                    ("some", ["next"], 0), ("some", {}, 0), (["some"], "next", 0), (("some", "next"), 0)):
            self.wrong((("yes",), row), 1)

    def test_marks_that_are_no_names(self):
        for name in ("", "A", "a1", "a b", "a\n", "abcdefghi", *helper.WORDS, None, True, ("a",), ["a"]):
            self.wrong((("mark", name),), 0)

    def test_numbers_of_rows_ahead_alone(self):
        self.wrong((("not", 0),), 0)
        for number in (2, 3, -1, 160, 10 ** 999, -10 ** 999, True, False, None, "0", (0,)):
            self.wrong((("yes",), ("no",), ("not", number), ("yes",)), 2)
            self.wrong((("yes",), ("no",), ("and", number, 0)), 2)
            self.wrong((("yes",), ("no",), ("and", 0, number)), 2)
            self.wrong((("yes",), ("no",), ("all", "until", 0, number)), 2)
            self.wrong((("yes",), ("no",), ("some", "unless", number, 0)), 2)
        self.right((("yes",), ("no",), ("not", 1)))

    def test_1_160_and_161_rows(self):
        self.right((("yes",),))
        self.right((("yes",),) * 160)
        self.right((("yes",), *(("not", number) for number in range(159))))
        self.wrong((), -1)
        self.wrong((("yes",),) * 161, -1)
        self.wrong(((),) * 161, -1)

    def test_the_first_row_that_cannot_stand_there(self):
        self.wrong(((), ()), 0)
        self.wrong((("yes",), ("not", 0), ("not", 2), ("not", 9)), 2)
        self.wrong((("yes",),) * 159 + (("not", 159),), 159)

    def test_what_is_no_tuple(self):
        for thing in ([("yes",)], {0: ("yes",)}, "yes", None, True, 0):
            self.wrong(thing, -1)

    def test_anything_at_any_depth(self):
        for thing in helper.changes(ORDINARY):
            if first_wrong(thing) is None:
                self.assertIs(sayings.check(thing), True, repr(thing)[:80])
            else:
                self.wrong(thing, first_wrong(thing))

    def test_sayings_by_chance(self):
        for many, chance in enumerate(helper.chances(160), start=1):
            self.right(helper.some_saying(chance, many))


if __name__ == "__main__":
    unittest.main()
