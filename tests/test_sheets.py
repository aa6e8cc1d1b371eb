"""Points 25 and 29: what is a sheet, and its opposite."""

import itertools
import random
import unittest

from fairtrees.errors import NoSheet
from fairtrees.sheets import blocks_of, check, opposite, row_parts
from tests import helper
from tests.helper import put

# Every kind of row; 0, 2, 4 and 5 are one part, 3, 6 and 7 another one.
ORDINARY = (("greatest", 2), ("mark", "a"), ("or", (3, 4, 1)), ("least", 6), ("some", 5), ("and", (0, 1, 0)), ("all", 7),
            ("or", (3, 8)), ("bare", "b"))
TURNED = {"mark": "bare", "bare": "mark", "and": "or", "or": "and", "some": "all", "all": "some", "least": "greatest",
          "greatest": "least"}


def is_sheet(thing):
    """Say whether the thing is a sheet, sentence by sentence."""
    if type(thing) is not tuple or not 1 <= len(thing) <= 1000:
        return False

    def is_number(one):
        return type(one) is int and 0 <= one < len(thing)

    led = []
    for row in thing:
        if type(row) is not tuple or len(row) != 2 or type(row[0]) is not str or row[0] not in TURNED:
            return False
        word, inner = row
        if word in ("mark", "bare"):
            if not helper.is_name(inner):
                return False
            led.append(())
        elif word in ("and", "or"):
            if type(inner) is not tuple or len(inner) > 40 or not all(is_number(one) for one in inner):
                return False
            led.append(inner)
        else:
            if not is_number(inner):
                return False
            led.append((inner,))
    many = len(thing)
    points = [number for number in range(many) if thing[number][0] in ("least", "greatest")]
    machine = (tuple(tuple(sorted(set(row))) for row in led), None)
    if any(one == other for one, other in helper.leads(machine, [one for one in range(many) if one not in points])):
        return False
    pairs = helper.leads(machine, range(many))
    for one in range(many):
        part = [one] + [other for other in range(many) if other != one and (one, other) in pairs and (other, one) in pairs]
        words = [thing[number][0] for number in sorted(part) if number in points]
        if len(words) > 12 or sum(low != high for low, high in zip(words, words[1:])) > 2:
            return False
    return True


def ring(words, many=None):
    """Tell a round of points of these words, with rows of some behind them up to so many."""
    many = many or len(words)
    rows = [(word, number + 1) for number, word in enumerate(words)]
    rows += [("some", number + 1) for number in range(len(words), many)]
    return tuple(rows[:-1]) + ((rows[-1][0], 0),)


class Check(unittest.TestCase):
    def both(self, thing):
        told = helper.refusal(check, thing)
        if is_sheet(thing):
            self.assertIs(told, True, repr(thing)[:300])
        else:
            self.assertIs(type(told), NoSheet, repr(thing)[:300])
        return told is True

    def test_an_ordinary_one(self):
        self.assertTrue(self.both(ORDINARY))

    def test_each_kind_of_row_by_itself(self):
        for row in (("mark", "a"), ("bare", "abcdefgh"), ("and", ()), ("or", ()), ("least", 0), ("greatest", 0)):
            self.assertTrue(self.both((row,)), row)
        for row in (("and", (0,)), ("or", (0, 0)), ("some", 0), ("all", 0)):
            self.assertFalse(self.both((row,)), row)
            self.assertTrue(self.both((("mark", "b"), row)), row)

    def test_1_and_1000_rows_but_not_0_and_1001(self):
        self.assertFalse(self.both(()))
        for row in (("mark", "a"), ("and", ()), ("least", 0)):
            self.assertTrue(self.both((row,)))
            self.assertIs(check((row,) * 1000), True)
            self.assertIs(type(helper.refusal(check, (row,) * 1001)), NoSheet)

    def test_none_40_and_41_numbers(self):
        for word in ("and", "or"):
            for numbers in ((), (1,), tuple(range(1, 41)), tuple(range(40, 0, -1)), (1,) * 40, (3, 1, 3, 2), (2, 1)):
                self.assertTrue(self.both(((word, numbers),) + (("mark", "a"),) * 41), numbers)
            for numbers in (tuple(range(1, 42)), (1,) * 41):
                self.assertFalse(self.both(((word, numbers),) + (("mark", "a"),) * 41), numbers)

    def test_rows_that_lead_ahead_and_behind_and_to_themselves(self):
        for word in ("some", "all", "least", "greatest"):
            self.assertTrue(self.both(((word, 1), ("mark", "a"))))
            self.assertTrue(self.both((("mark", "a"), (word, 0))))
            self.assertEqual(self.both((("mark", "a"), (word, 1))), word in ("least", "greatest"))
            self.assertEqual(self.both(((word, 1), ("and", (0,)))), word in ("least", "greatest"))

    def test_numbers_of_rows_that_are_not_there(self):
        for number in (-1, 2, 3, 1000, True, False, None, "0", (0,), [0]):
            for row in (("some", number), ("all", number), ("least", number), ("greatest", number), ("and", (0, number)),
                        ("or", (number,))):
                self.assertFalse(self.both((("mark", "a"), row)), row)
        self.assertTrue(self.both((("mark", "a"), ("some", 0))))

    def test_words_and_names_that_are_none(self):
        for name in ("", "some", "yes", "abcdefghi", "A", "a1", b"a", None, 0, ("a",)):
            for word in ("mark", "bare"):
                self.assertFalse(self.both(((word, name),)), name)
        for word in ("Mark", "", "not", "step", "yes", "once", "greater", None, 0, b"mark", ("mark",)):
            for inner in ("a", 0, (), (0,)):
                self.assertFalse(self.both(((word, inner), ("mark", "a"))), word)

    def test_rows_that_are_too_long_or_too_short_or_no_tuples(self):
        for row in (("mark", "a"), ("and", (0,)), ("some", 0), ("least", 0)):
            for other in (row[:1], row + (0,), row + ("a",), list(row), (), row[::-1], (row,)):
                self.assertFalse(self.both((("mark", "a"), other)), other)
        for row in (("and", [0]), ("or", 0), ("and", "a"), ("some", (0,)), ("least", (0,)), ("mark", ("a",))):
            self.assertFalse(self.both((("mark", "a"), row)), row)

    def test_a_round_without_a_point(self):
        for many in (1, 2, 3, 7):
            rows = tuple(("some", (number + 1) % many) for number in range(many))
            self.assertFalse(self.both(rows))
            for at in range(many):
                for word in ("least", "greatest"):
                    self.assertTrue(self.both(put(rows, at, (word, rows[at][1]))))
                for word in ("and", "or"):
                    self.assertFalse(self.both(put(rows, at, (word, (rows[at][1],)))))

    def test_a_round_without_a_point_through_rows_of_another_round(self):
        # 0 1 2 is a round with a point, and 1 2 3 one without.
        self.assertFalse(self.both((("least", 1), ("some", 2), ("or", (0, 3)), ("all", 1))))
        self.assertTrue(self.both((("least", 1), ("some", 2), ("or", (0, 3)), ("all", 0))))
        self.assertTrue(self.both((("least", 1), ("some", 2), ("or", (0, 3)), ("greatest", 1))))
        self.assertFalse(self.both((("least", 1), ("and", (0, 1)))))

    def test_twelve_and_thirteen_points_of_one_part(self):
        for word in ("least", "greatest"):
            self.assertTrue(self.both(ring([word] * 12)))
            self.assertTrue(self.both(ring([word] * 12, 20)))
            self.assertFalse(self.both(ring([word] * 13)))
            self.assertFalse(self.both(ring([word] * 13, 20)))
            # In several parts there may be more.
            self.assertTrue(self.both(((word, 0),) * 50))
            self.assertTrue(self.both(tuple((word, number + 1) for number in range(40)) + (("mark", "a"),)))
            two = ring([word] * 12) + tuple((word, inner + 12) for word, inner in ring([word] * 12))
            self.assertTrue(self.both(two))
            self.assertFalse(self.both(put(put(two, 11, (word, 12)), 23, (word, 0))))

    def test_words_that_change_twice_and_three_times(self):
        for many in range(1, 7):
            for words in itertools.product(("least", "greatest"), repeat=many):
                changes = sum(low != high for low, high in zip(words, words[1:]))
                self.assertEqual(self.both(ring(words)), changes <= 2)

    def test_words_change_by_the_rows_numbers_and_not_by_the_round(self):
        # By the round the words change four times, by their numbers twice.
        self.assertTrue(self.both((("least", 2), ("least", 3), ("greatest", 1), ("greatest", 4), ("least", 0))))
        self.assertFalse(self.both((("least", 1), ("greatest", 3), ("least", 4), ("least", 2), ("greatest", 0))))
        # Rows in between that are no points do not count.
        self.assertTrue(self.both((("least", 1), ("some", 2), ("greatest", 3), ("some", 4), ("least", 0))))

    def test_words_that_change_more_often_over_several_parts(self):
        self.assertTrue(self.both(tuple((("least", "greatest")[number & 1], number) for number in range(30))))
        self.assertTrue(self.both((("least", 2), ("greatest", 3), ("least", 0), ("greatest", 1))))
        self.assertFalse(self.both((("least", 2), ("greatest", 3), ("least", 1), ("greatest", 0))))

    def test_rounds_and_chains_of_1000_rows(self):
        for word in ("some", "all", "least"):
            self.assertIs(check(tuple((word, number + 1) for number in range(999)) + (("mark", "a"),)), True)
            self.assertIs(check((("mark", "a"),) + tuple((word, number) for number in range(999))), True)
        rows = tuple(("some", (number + 1) % 1000) for number in range(1000))
        self.assertIs(type(helper.refusal(check, rows)), NoSheet)
        back = tuple(("all", (number - 1) % 1000) for number in range(1000))
        self.assertIs(type(helper.refusal(check, back)), NoSheet)
        for at in (0, 1, 500, 999):
            self.assertIs(check(put(rows, at, ("greatest", rows[at][1]))), True)
            self.assertIs(check(put(back, at, ("least", back[at][1]))), True)
        points = [("least" if number < 480 else "greatest", (number + 1) % 1000) if number % 80 == 0 and number < 960
                  else ("or", ((number + 1) % 1000,)) for number in range(1000)]
        self.assertIs(check(tuple(points)), True)
        points[999] = ("greatest", 0)
        self.assertIs(type(helper.refusal(check, tuple(points))), NoSheet)
        wide = tuple(("and", tuple(range(number + 1, min(1000, number + 41)))) for number in range(1000))
        self.assertIs(check(wide), True)
        self.assertIs(type(helper.refusal(check, put(wide, 999, ("or", (0,))))), NoSheet)

    def test_sheets_by_chance(self):
        for chance in helper.chances(200):
            self.assertTrue(self.both(helper.some_sheet(chance, chance.randint(1, 20), chance.randint(0, 6))))

    def test_rows_by_chance(self):
        right = 0
        for seed in range(1500):
            chance = random.Random(seed)
            many = chance.randint(1, 9)
            words = ["least", "greatest"] * 2 + ["some", "and", "mark"]
            rows = []
            for _ in range(many):
                word = chance.choice(words)
                inner = chance.randrange(many)
                rows.append((word, {"mark": "a", "and": (inner, chance.randrange(many))}.get(word, inner)))
            right += self.both(tuple(rows))
        self.assertTrue(300 < right < 1200, right)

    def test_anything_at_any_depth(self):
        right = 0
        for thing in helper.changes(ORDINARY):
            right += self.both(thing)
        self.assertGreater(right, 30)


class Parts(unittest.TestCase):
    def test_parts_come_behind_those_to_which_they_lead(self):
        self.assertEqual(set(row_parts(ORDINARY)), {(0, 2, 4, 5), (1,), (3, 6, 7), (8,)})
        for chance in helper.chances(100):
            sheet = helper.some_sheet(chance, chance.randint(1, 20), chance.randint(0, 6))
            parts = row_parts(sheet)
            self.assertEqual(sorted(number for part in parts for number in part), list(range(len(sheet))))
            for first, last in itertools.combinations(parts, 2):
                for number in first:
                    inner = sheet[number][1]
                    led = inner if type(inner) is tuple else (inner,)
                    self.assertEqual(set(led) & set(last), set())

    def test_neighbouring_points_of_one_word_are_one_block(self):
        words = ["least", "least", "greatest", "least"]
        self.assertEqual(blocks_of(ring(words, 7), tuple(range(7))), [[0, 1], [2], [3]])
        self.assertEqual(blocks_of(ring(["greatest"]), (0,)), [[0]])
        self.assertEqual(blocks_of((("mark", "a"),), (0,)), [])


class Opposite(unittest.TestCase):
    def test_every_kind_of_row(self):
        told = opposite(ORDINARY)
        self.assertEqual(told, (("least", 2), ("bare", "a"), ("and", (3, 4, 1)), ("greatest", 6), ("all", 5),
                                ("or", (0, 1, 0)), ("some", 7), ("and", (3, 8)), ("mark", "b")))
        self.assertTrue(helper.is_plain(told))

    def test_of_the_opposite_it_is_the_sheet_again(self):
        for chance in helper.chances(100):
            sheet = helper.some_sheet(chance, chance.randint(1, 20), chance.randint(0, 6))
            told = opposite(sheet)
            self.assertIs(check(told), True)
            self.assertEqual(told, tuple((TURNED[word], inner) for word, inner in sheet))
            self.assertEqual(opposite(told), sheet)


if __name__ == "__main__":
    unittest.main()
