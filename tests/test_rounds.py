"""Points 3, 26 and 27: the sets of a sheet, by rounds and by games."""

import functools
import itertools
import unittest

from fairtrees.games import by_games
from fairtrees.rounds import by_rounds
from fairtrees.sheets import check, opposite
from tests import helper
from tests.helper import put
from tests.test_sheets import ORDINARY, ring

# 0 leads to 1 and 3; 1 and 2 to one another; 3 to nobody; 4 to itself and to 0.
MACHINE = (((1, 3), (2,), (1,), (), (0, 4)), (("a",), (), ("a",), ("b",), ("b",)))
ALL = tuple(range(40))
RING = (tuple(((one + 1) % 40,) for one in ALL), (("a",),) + ((),) * 39)
CHAIN = (tuple((one + 1,) for one in ALL[:39]) + ((),), ((),) * 39 + (("a",),))
ONCE = (("least", 1), ("or", (2, 3)), ("mark", "a"), ("some", 0))
AGAIN = (("greatest", 1), ("least", 2), ("or", (3, 4)), ("and", (5, 6)), ("some", 1), ("mark", "a"), ("some", 0))


def plain_sets(machine, sheet, points):
    """Tell the set of each row by those of its points, as point 26 says it."""
    whole = frozenset(range(len(machine[0])))
    told = dict(points)

    def tell(number):
        if number not in told:
            word, inner = sheet[number]
            if word in ("mark", "bare"):
                told[number] = frozenset(one for one in whole if (inner in machine[1][one]) == (word == "mark"))
            elif word == "and":
                told[number] = whole.intersection(*[tell(other) for other in inner])
            elif word == "or":
                told[number] = frozenset().union(*[tell(other) for other in inner])
            else:
                reach = {one: [other in tell(inner) for other in machine[0][one]] for one in whole}
                told[number] = frozenset(one for one in whole if (any if word == "some" else all)(reach[one]))
        return told[number]

    return [tell(number) for number in range(len(sheet))]


def points_of(sheet):
    return [number for number, row in enumerate(sheet) if row[0] in ("least", "greatest")]


def by_words(machine, sheet):
    """Tell the sets by going through all sets of standings, word by word as point 27 says it."""
    numbers = points_of(sheet)
    many = len(machine[0])
    every = [frozenset(row) for size in range(many + 1) for row in itertools.combinations(range(many), size)]

    @functools.cache
    def found(below):
        """Tell all points where those of the least numbers are as told."""
        if len(below) == len(numbers):
            return below
        word, inner = sheet[numbers[len(below)]]
        right = {}
        for one in every:
            points = found(below + (one,))
            if plain_sets(machine, sheet, zip(numbers, points))[inner] == one:
                right[one] = points
        if word == "least":
            best = [one for one in right if all(one <= other for other in right)]
        else:
            best = [one for one in right if all(one >= other for other in right)]
        return right[best[0]]

    return tuple(tuple(sorted(one)) for one in plain_sets(machine, sheet, zip(numbers, found(()))))


def by_nesting(machine, sheet):
    """Tell the sets by nesting all points in one another, each begun anew in all those ahead of it."""
    numbers = points_of(sheet)
    points = {}

    def nest(at):
        if at == len(numbers):
            return plain_sets(machine, sheet, points)
        number = numbers[at]
        points[number] = frozenset() if sheet[number][0] == "least" else frozenset(range(len(machine[0])))
        while True:
            sets = nest(at + 1)
            if sets[sheet[number][1]] == points[number]:
                return sets
            points[number] = sets[sheet[number][1]]

    return tuple(tuple(sorted(one)) for one in nest(0))


class Sets(unittest.TestCase):
    def sets(self, machine, sheet):
        """Tell the sets, where both ways tell the same."""
        told = by_rounds(machine, sheet)
        self.assertTrue(type(told) is tuple and helper.is_plain(told))
        self.assertTrue(all(one == tuple(sorted(set(one))) for one in told))
        self.assertEqual(len(told), len(sheet))
        other = by_games(machine, sheet)
        self.assertTrue(type(other) is tuple and helper.is_plain(other))
        self.assertEqual(told, other)
        return told

    def by_words(self, machine, sheet):
        told = self.sets(machine, sheet)
        self.assertEqual(told, by_words(machine, sheet), (machine, sheet))
        return told

    def test_rows_without_points(self):
        sheet = (("mark", "a"), ("bare", "a"), ("mark", "zz"), ("bare", "zz"), ("and", (0, 3, 0)), ("or", (2, 0, 1)),
                 ("some", 0), ("all", 0), ("and", ()), ("or", ()), ("some", 8), ("all", 9))
        self.assertEqual(self.sets(MACHINE, sheet), (
            (0, 2), (1, 3, 4), (), (0, 1, 2, 3, 4), (0, 2), (0, 1, 2, 3, 4),
            (1, 4), (1, 3), (0, 1, 2, 3, 4), (), (0, 1, 2, 4), (3,)))
        self.assertEqual(self.sets(MACHINE, sheet), by_nesting(MACHINE, sheet))

    def test_one_point(self):
        self.assertEqual(self.sets(MACHINE, ONCE)[0], (0, 1, 2, 4))
        self.assertEqual(self.sets(MACHINE, put(ONCE, 0, ("greatest", 1)))[0], (0, 1, 2, 4))
        self.assertEqual(self.sets(CHAIN, ONCE)[0], ALL)
        ever = (("greatest", 1), ("and", (2, 3)), ("mark", "a"), ("some", 0))
        self.assertEqual(self.sets(MACHINE, ever)[0], ())
        self.assertEqual(self.sets((((0,), (0, 1)), (("a",), ())), ever)[0], (0,))
        self.assertEqual(self.sets((((0,), (0, 1)), (("a",), ("a",))), put(ever, 0, ("least", 1)))[0], ())
        self.assertEqual(self.sets(CHAIN, (("greatest", 1), ("some", 0)))[0], ())
        self.assertEqual(self.sets(RING, (("greatest", 1), ("some", 0)))[0], ALL)
        self.assertEqual(self.sets(CHAIN, (("least", 1), ("all", 0)))[0], ALL)
        self.assertEqual(self.sets(RING, (("least", 1), ("all", 0)))[0], ())

    def test_a_point_whose_row_is_itself(self):
        self.assertEqual(self.sets(MACHINE, (("least", 0), ("greatest", 1))), ((), (0, 1, 2, 3, 4)))
        self.assertEqual(self.sets(RING, (("greatest", 1), ("greatest", 0), ("some", 0))), (ALL, ALL, ALL))

    def test_points_whose_rows_are_points(self):
        self.assertEqual(self.sets(MACHINE, (("least", 1), ("greatest", 0))), ((), ()))
        self.assertEqual(self.sets(MACHINE, (("greatest", 1), ("least", 0))), ((0, 1, 2, 3, 4),) * 2)
        for many in range(1, 7):
            for words in itertools.product(("least", "greatest"), repeat=many):
                self.assertEqual(set(self.sets(MACHINE, ring(words))), {() if words[0] == "least" else (0, 1, 2, 3, 4)})
        self.assertEqual(self.sets(MACHINE, (("least", 1), ("greatest", 2), ("mark", "b"))), ((3, 4),) * 3)

    def test_least_in_greatest_and_greatest_in_least(self):
        # Of the outer row 0: again and again a, on some run. With its words exchanged: from some place on nothing but a.
        self.assertEqual(self.sets(MACHINE, AGAIN)[0], (0, 1, 2, 4))
        self.assertEqual(self.sets(RING, AGAIN)[0], ALL)
        self.assertEqual(self.sets(CHAIN, AGAIN)[0], ())
        last = (("least", 1), ("greatest", 2), *AGAIN[2:])
        self.assertEqual(self.sets(MACHINE, last)[0], (0, 1, 2, 4))
        once = (("least", 1), ("greatest", 2), ("or", (3, 6)), ("and", (4, 5)), ("some", 1), ("mark", "a"), ("some", 0))
        self.assertEqual(self.sets(MACHINE, once)[0], ())
        self.assertEqual(self.sets((((0, 1), (1,)), ((), ("a",))), once)[0], (0, 1))
        self.assertEqual(self.sets((((1,), (0,)), ((), ("a",))), once)[0], ())
        self.assertEqual(self.sets((((1,), (0,)), ((), ("a",))), AGAIN)[0], (0, 1))

    def test_the_outer_one_is_the_one_of_the_lesser_number(self):
        # The same rows, the two points exchanged.
        told = (("least", 2), ("greatest", 2), ("or", (3, 4)), ("and", (5, 6)), ("some", 0), ("mark", "a"), ("some", 1))
        machine = (((1,), (0,)), ((), ("a",)))
        self.assertEqual(self.by_words(machine, told)[:2], ((), ()))
        other = (("greatest", 2), ("least", 2), ("or", (3, 4)), ("and", (5, 6)), ("some", 1), ("mark", "a"), ("some", 0))
        self.assertEqual(self.by_words(machine, other)[:2], ((0, 1), (0, 1)))

    def test_parts_that_lead_to_other_parts(self):
        # Once a, by the part behind it once a again and again, by the part behind that one b.
        sheet = (("least", 1), ("or", (2, 3)), ("greatest", 4), ("some", 0), ("and", (5, 6)), ("some", 2), ("least", 7),
                 ("or", (8, 9)), ("mark", "a"), ("all", 6))
        for machine in (MACHINE, RING, CHAIN):
            self.assertEqual(self.sets(machine, sheet), by_nesting(machine, sheet))
        self.assertEqual(self.sets(MACHINE, sheet)[0], (0, 1, 2, 4))
        self.assertEqual(self.sets(MACHINE, ORDINARY), by_nesting(MACHINE, ORDINARY))

    def test_all_machines_of_two_standings(self):
        sets = [row for many in range(3) for row in itertools.combinations(range(2), many)]
        sheets = [ONCE, AGAIN, opposite(AGAIN), ORDINARY, (("least", 1), ("greatest", 2), ("least", 3), ("or", (4, 5)),
                  ("and", (6, 7, 8)), ("some", 0), ("all", 1), ("or", (6, 9)), ("mark", "a"), ("some", 2))]
        for steps in itertools.product(sets, repeat=2):
            for marks in itertools.product(((), ("a",)), repeat=2):
                for sheet in sheets:
                    self.by_words((steps, marks), sheet)

    def test_small_machines_by_chance(self):
        several = 0
        for chance in helper.chances(600):
            machine = helper.some_machine(chance, chance.randint(1, 3))
            points = chance.randint(1, 3 if len(machine[0]) == 3 else 5)
            sheet = helper.some_sheet(chance, chance.randint(4, 14), points)
            if chance.random() < 0.5:
                sheet = helper.knotted_sheet(chance, chance.randint(1, 3))
            several += len(set(self.by_words(machine, sheet))) > 4
        self.assertGreater(several, 20)

    def test_points_nested_in_one_another_by_chance(self):
        for chance in helper.chances(250):
            machine = helper.some_machine(chance, chance.randint(1, 5))
            sheet = helper.some_sheet(chance, chance.randint(8, 25), chance.randint(2, 5), 4)
            self.assertEqual(self.sets(machine, sheet), by_nesting(machine, sheet))
            sheet = helper.knotted_sheet(chance, chance.randint(2, 5), 4)
            self.assertEqual(self.sets(machine, sheet), by_nesting(machine, sheet))
            sheet = helper.points_last(sheet)
            self.assertEqual(self.sets(machine, sheet), by_nesting(machine, sheet))

    def test_greater_ones_by_chance_by_both_ways(self):
        for chance in helper.chances(300):
            machine = helper.some_machine(chance, chance.choice([6, 12, 40]))
            sheet = helper.some_sheet(chance, chance.randint(10, 60), chance.randint(2, 14), chance.choice([2, 5]))
            for sheet in (sheet, helper.knotted_sheet(chance, chance.randint(2, 14), chance.choice([2, 5]))):
                told = self.sets(machine, sheet)
                others = self.sets(machine, opposite(sheet))
                for one, other in zip(told, others):
                    self.assertEqual(sorted(one + other), list(range(len(machine[0]))))

    def test_rows_numbered_anew(self):
        changed = 0
        for chance in helper.chances(250):
            machine = helper.some_machine(chance, chance.randint(1, 3))
            sheet = chance.choice([helper.some_sheet(chance, chance.randint(4, 10), 3), helper.knotted_sheet(chance, 3)])
            many = len(sheet)
            places = chance.sample(range(many), many)
            if chance.random() < 0.5:
                # The points keep their order.
                numbers = points_of(sheet)
                for number, place in zip(numbers, sorted(places[number] for number in numbers)):
                    places[number] = place
            rows = helper.numbered_anew(sheet, places)
            told = self.sets(machine, sheet)
            anew = self.by_words(machine, rows)
            same = [anew[place] for place in places] == list(told)
            changed += not same
            if sorted(points_of(rows)) == [places[number] for number in points_of(sheet)]:
                self.assertTrue(same)
        self.assertGreater(changed, 0)

    def test_standings_without_steps(self):
        machine = (((), ()), (("a",), ()))
        sheet = (("some", 4), ("all", 5), ("greatest", 0), ("least", 1), ("greatest", 4), ("least", 5))
        self.assertEqual(self.sets(machine, sheet), ((), (0, 1), (), (0, 1), (0, 1), ()))

    def test_one_standing(self):
        for machine in ((((),), ((),)), (((0,),), ((),)), (((0,),), (("a",),))):
            for sheet in (ONCE, AGAIN, ORDINARY, opposite(ORDINARY)):
                self.by_words(machine, sheet)

    def test_40_standings_and_twelve_points(self):
        for words in (["least"] * 4 + ["greatest"] * 4 + ["least"] * 4, ["greatest"] * 12, ["greatest"] + ["least"] * 11):
            points = [(word, 12 + number) for number, word in enumerate(words)]
            rows = [("or" if number % 3 else "and", (24, 25 + number, 37 + (number + 5) % 12)) for number in range(12)]
            rows += [("mark", "a")]
            rows += [("some" if number % 2 else "all", (number + 1) % 12) for number in range(12)]
            rows += [("all" if number % 5 else "some", (number * 7) % 12) for number in range(12)]
            sheet = tuple(points + rows)
            self.assertIs(check(sheet), True)
            for machine in (RING, CHAIN, MACHINE, ((ALL,) * 40, RING[1])):
                told = self.sets(machine, sheet)
                others = self.sets(machine, opposite(sheet))
                self.assertEqual([sorted(one + other) for one, other in zip(told, others)],
                                 [list(range(len(machine[0])))] * len(sheet))

    def test_more_points_and_changes_than_a_sheet_may_have(self):
        # The points say nothing of it, so it is reckoned all the same.
        words = ["least", "greatest"] * 3
        rows = [(word, 6 + number) for number, word in enumerate(words)]
        rows += [("or" if number % 2 else "and", (12, 13 + (number + 1) % 6)) for number in range(6)]
        rows += [("mark", "a")] + [("some", number) for number in range(6)]
        for machine in ((((1,), (2,), (0, 2)), ((), ("a",), ())), MACHINE):
            self.assertEqual(self.sets(machine, tuple(rows)), by_nesting(machine, tuple(rows)))


def wide_sheet(words, many):
    """Tell a sheet of so many rows, in one part, whose points have these words and most of whose rows have 40 numbers."""
    points = len(words)
    ends = [("all", number) for number in range(points)]
    rows = [(word, points + number) for number, word in enumerate(words)]
    while len(rows) < many - points:
        at = len(rows)
        rows.append(("and", tuple(min(at + 1 + step, many - points + (at + step) % points) for step in range(40))))
    return tuple(rows + ends)


class Swift(unittest.TestCase):
    """What is asked here is told within so many lines of Python, of rows of sheets, standings and turns."""

    def swift(self, machine, sheet, lines=2000000):
        told = helper.sooner(lines, by_rounds, machine, sheet)
        self.assertEqual(helper.sooner(lines, by_games, machine, sheet), told)
        return told

    def test_chains_of_1000_rows(self):
        for word in ("some", "all"):
            sheet = tuple((word, number + 1) for number in range(999)) + (("mark", "a"),)
            told = self.swift(RING, sheet)
            self.assertEqual(told, tuple(((number - 999) % 40,) for number in range(1000)))
            back = (("mark", "a"),) + tuple((word, number) for number in range(999))
            self.assertEqual(self.swift(RING, back), told[::-1])
        sheet = tuple(("least", number + 1) for number in range(999)) + (("mark", "a"),)
        self.assertEqual(self.swift(CHAIN, sheet), ((39,),) * 1000)

    def test_rounds_of_1000_rows(self):
        for word in ("some", "all"):
            for point in ("least", "greatest"):
                rows = ((point, 1),) + tuple((word, (number + 1) % 1000) for number in range(1, 1000))
                self.assertEqual(self.swift(RING, rows), (() if point == "least" else ALL,) * 1000)
                told = self.swift(CHAIN, rows)
                self.assertEqual(told[0], () if word == "some" else ALL)
                back = tuple((word, number - 1) if number else (point, 999) for number in range(1000))
                self.assertEqual(self.swift(CHAIN, back)[0], told[0])

    def test_a_round_of_1000_rows_with_twelve_points(self):
        words = ["least"] * 4 + ["greatest"] * 4 + ["least"] * 4
        rows = [(words[number // 80], number + 1) if number % 80 == 0 and number < 960 else ("some", (number + 1) % 1000)
                for number in range(1000)]
        self.assertEqual(self.swift((((1,), (0, 1)), ((), ())), tuple(rows)), ((),) * 1000)

    def test_turns_within_turns_within_turns(self):
        # Each of the three goes through the chain step by step, the inner ones at each step of the outer one.
        sheet = (("least", 3), ("greatest", 4), ("least", 5), ("or", (6, 7, 11)), ("and", (8, 10)), ("or", (6, 9, 11)),
                 ("mark", "a"), ("some", 0), ("some", 1), ("some", 2), ("or", (2, 0)), ("and", (1, 2)))
        many = 30
        chain = (tuple((one + 1,) for one in range(many - 1)) + ((),), ((),) * (many - 1) + (("a",),))
        told = self.swift(chain, sheet)
        self.assertEqual((told[0], told[1]), (ALL[:many], ()))

    def test_rows_with_40_numbers_in_one_part(self):
        # All of it holds at the chain's last standing, then at the one ahead of it, and so on.
        for words in (["least"] * 12, ["least"] * 6 + ["greatest"] * 6, ["greatest"] * 4 + ["least"] * 4 + ["greatest"] * 4):
            sheet = wide_sheet(words, 150)
            self.assertIs(check(sheet), True)
            self.assertEqual(self.swift(CHAIN, sheet), (ALL,) * 150)

    def test_rows_with_40_numbers(self):
        sheet = tuple(("and" if number % 2 else "or", tuple(range(number + 1, min(100, number + 41))))
                      for number in range(99)) + (("mark", "a"),)
        self.assertEqual(self.swift(CHAIN, sheet), ((39,),) * 100)


if __name__ == "__main__":
    unittest.main()
