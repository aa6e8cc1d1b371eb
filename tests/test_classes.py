"""Points 3, 31, 32 and 33: classes of standings, their papers with the judge, and quotients."""

import itertools
import unittest

from fairtrees.classes import alike, classes, quotient, right_classes
from fairtrees.errors import NoPaper
from fairtrees.machines import check
from fairtrees.telling import tell
from tests import helper
from tests.helper import put

ALL = tuple(range(40))
CHAIN = (tuple((one + 1,) for one in ALL[:39]) + ((),), ((),) * 40)
RING = (tuple(((one + 1) % 40,) for one in ALL), ((),) * 40)
MARKED = (RING[0], ((),) * 39 + (("a",),))

# 0 and 2 are alike, and 1 and 3; 4 leads nowhere, 5 leads to 4 and to 0, 6 bears another name than 4.
MACHINE = (((1,), (0, 4), (3,), (2, 4), (), (0, 4), ()), (("a",), (), ("a",), (), (), (), ("b",)))
ROW = (0, 1, 0, 1, 2, 1, 3)


def first_row(keys):
    """Tell the row of classes in which those of one key are of one class."""
    numbers = {}
    return tuple(numbers.setdefault(key, len(numbers)) for key in keys)


def is_steady(machine, row):
    """Say whether the thing is a steady row, sentence by sentence."""
    many = len(machine[0])
    if type(row) is not tuple or len(row) != many or any(type(one) is not int for one in row):
        return False
    if any(row[one] < 0 or row[one] > max((-1, *row[:one])) + 1 for one in range(many)):
        return False
    for one, other in itertools.product(range(many), repeat=2):
        if row[one] == row[other]:
            if machine[1][one] != machine[1][other]:
                return False
            if any(row[led] not in [row[onward] for onward in machine[0][other]] for led in machine[0][one]):
                return False
    return True


def by_parting(machine):
    """Tell the row of classes, by parting round by round by names and by the classes to which steps lead."""
    row = first_row(machine[1])
    while True:
        finer = first_row([(row[one], frozenset(row[other] for other in led)) for one, led in enumerate(machine[0])])
        if finer == row:
            return row
        row = finer


def judge(machine, thing):
    """Say whether the thing is a classes paper, sentence by sentence."""
    if type(thing) is not tuple or len(thing) != 2 or not is_steady(machine, thing[0]) or type(thing[1]) is not tuple:
        return False
    blocks = [set(range(len(machine[0])))]
    for pair in thing[1]:
        if type(pair) is not tuple or len(pair) != 2 or type(pair[0]) is not int:
            return False
        cut, by = pair
        found = [block for block in blocks if min(block) == cut]
        if not found:
            return False
        if helper.is_name(by):
            yes = {one for one in found[0] if by in machine[1][one]}
        elif type(by) is int and any(min(block) == by for block in blocks):
            goal = [block for block in blocks if min(block) == by][0]
            yes = {one for one in found[0] if goal & set(machine[0][one])}
        else:
            return False
        if not yes or yes == found[0]:
            return False
        blocks = [block for block in blocks if block != found[0]] + [yes, found[0] - yes]
    groups = [{one for one in range(len(thing[0])) if thing[0][one] == home} for home in set(thing[0])]
    return sorted(map(sorted, groups)) == sorted(map(sorted, blocks))


def told_over(machine, times):
    """Tell the machine with each standing told so many times, each leading to all that are told for it."""
    many = len(machine[0])
    steps = tuple(tuple(sorted(other + many * at for other in row for at in range(times))) for row in machine[0])
    return steps * times, machine[1] * times


def steady_rows(machine):
    """Tell all steady rows of a small machine."""
    many = len(machine[0])
    return [row for row in itertools.product(range(many), repeat=many) if is_steady(machine, row)]


class Told(unittest.TestCase):
    def check(self, machine):
        told = classes(machine)
        self.assertTrue(type(told) is tuple and len(told) == 2 and helper.is_plain(told))
        self.assertIs(right_classes(machine, told), True)
        self.assertTrue(judge(machine, told))
        self.assertEqual(told[0], by_parting(machine))
        self.assertEqual(classes(machine), told)
        return told

    def test_an_ordinary_one(self):
        self.assertEqual(self.check(MACHINE)[0], ROW)

    def test_machines_by_chance(self):
        for chance in helper.chances(150):
            self.check(helper.some_machine(chance, chance.randint(1, 12)))

    def test_standings_told_several_times_over(self):
        for chance in helper.chances(60):
            machine = helper.some_machine(chance, chance.randint(1, 6))
            times = chance.randint(2, 5)
            row = self.check(machine)[0]
            self.assertEqual(self.check(told_over(machine, times))[0], row * times)

    def test_1_and_40_standings(self):
        self.assertEqual(self.check((((),), ((),))), ((0,), ()))
        self.assertEqual(self.check((((0,),), (("a",),))), ((0,), ()))
        self.assertEqual(self.check(CHAIN)[0], ALL)
        self.assertEqual(len(self.check(CHAIN)[1]), 39)
        self.assertEqual(self.check(RING), ((0,) * 40, ()))
        self.assertEqual(self.check(MARKED)[0], ALL)
        self.assertEqual(self.check(((ALL,) * 40, MARKED[1]))[0], (0,) * 39 + (1,))
        for chance in helper.chances(5):
            self.check(helper.some_machine(chance, 40))

    def test_alike_where_some_steady_row_has_both_in_one_class(self):
        for chance in helper.chances(40):
            machine = helper.some_machine(chance, chance.randint(1, 5))
            rows = steady_rows(machine)
            for one, other in itertools.product(range(len(machine[0])), repeat=2):
                told = alike(machine, one, other)
                self.assertIs(told, any(row[one] == row[other] for row in rows))

    def test_alike_both_ways_round_and_of_one_and_itself(self):
        for machine in (MACHINE, CHAIN, RING):
            row = by_parting(machine)
            for one, other in itertools.product(range(len(row)), repeat=2):
                if len(row) == 7 or one % 13 == 0:
                    self.assertIs(alike(machine, one, other), row[one] == row[other])

    def test_alike_standings_hold_the_same_sayings(self):
        for chance in helper.chances(60):
            machine = told_over(helper.some_machine(chance, chance.randint(1, 4)), 2)
            row = classes(machine)[0]
            for one in tell(machine, helper.some_saying(chance, 20), wishes=helper.some_wishes(chance, chance.randint(0, 4))):
                self.assertEqual({row[at] for at in one} & {row[at] for at in range(len(row)) if at not in one}, set())


class Judge(unittest.TestCase):
    def both(self, thing, machine=MACHINE):
        told = right_classes(machine, thing)
        self.assertIs(told, judge(machine, thing), repr(thing)[:300])
        if told:
            self.assertEqual(thing[0], by_parting(machine))
        return told

    def test_cuts_that_somebody_else_wrote(self):
        for cuts in (((0, "a"), (1, 0), (4, "b")), ((0, 0), (4, "b"), (0, "a")), ((0, "b"), (0, 0), (0, "a")),
                     ((0, "a"), (1, "b"), (1, 0)), ((0, "b"), (0, "a"), (1, 1))):
            self.assertTrue(self.both((ROW, cuts)), cuts)

    def test_a_row_that_is_not_steady(self):
        cuts = classes(MACHINE)[1]
        for row in ((0, 1, 0, 1, 1, 1, 2), (0, 1, 0, 1, 2, 1, 2), (0,) * 7, (0, 0, 0, 0, 1, 0, 2)):
            self.assertFalse(self.both((row, cuts)))
            for many in range(len(cuts)):
                self.assertFalse(self.both((row, cuts[:many])))
        # The blocks of the name alone.
        self.assertFalse(self.both(((0, 1, 0, 1, 1, 1, 1), ((0, "a"),))))

    def test_a_row_numbered_in_another_order(self):
        cuts = classes(MACHINE)[1]
        for numbers in itertools.permutations(range(4)):
            self.assertEqual(self.both((tuple(numbers[one] for one in ROW), cuts)), numbers == (0, 1, 2, 3))
        self.assertFalse(self.both((tuple(one + 1 for one in ROW), cuts)))
        self.assertFalse(self.both((tuple(one - 1 for one in ROW), cuts)))
        self.assertFalse(self.both((tuple(2 * one for one in ROW), cuts)))

    def test_a_row_that_is_finer_than_it_need_be(self):
        cuts = classes(MACHINE)[1]
        for row in ((0, 1, 2, 3, 4, 5, 6), (0, 1, 0, 1, 2, 3, 4), (0, 1, 2, 3, 4, 1, 5)):
            self.assertTrue(is_steady(MACHINE, row))
            self.assertFalse(self.both((row, cuts)))
            self.assertFalse(self.both((row, ())))

    def test_cuts_left_out_and_cuts_twice(self):
        for machine in (MACHINE, MARKED, helper.some_machine(helper.chances(1)[0], 9)):
            row, cuts = classes(machine)
            for at in range(len(cuts)):
                self.assertFalse(self.both((row, cuts[:at]), machine))
                self.both((row, cuts[:at] + cuts[at + 1:]), machine)
                self.assertFalse(self.both((row, cuts[:at] + cuts[at:at + 1] + cuts[at:]), machine))
            self.assertFalse(self.both((row, cuts + cuts[-1:]), machine))
        self.assertFalse(self.both((ROW, ())))

    def test_a_cut_that_parts_nothing(self):
        cuts = ((0, "a"), (1, "b"), (1, 0))
        self.assertTrue(self.both((ROW, cuts)))
        # A name that nobody bears, that all of the block bear, a block to which all of it lead, to which none does.
        for at, pairs in enumerate((((0, "c"), (0, "zz")), ((0, "a"), (1, "a"), (0, 1), (0, 0)), ((6, "b"), (6, 0), (1, "b")),
                                    ((0, 0), (1, 1), (4, 0), (4, 6), (6, 6)))):
            for pair in pairs:
                self.assertFalse(self.both((ROW, cuts[:at] + (pair,) + cuts[at:])), (at, pair))

    def test_cut_or_by_that_is_not_the_least_standing_of_a_block(self):
        cuts = ((0, "a"), (1, "b"), (1, 0))
        for at in range(3):
            for other in (*range(-2, 9), True, False, None, "", (0,), 0):
                self.both((ROW, put(cuts, at, (other, cuts[at][1]))))
                self.both((ROW, put(cuts, at, (cuts[at][0], other))))
        self.assertFalse(self.both((ROW, ((0, "a"), (1, "b"), (3, 0)))))
        self.assertFalse(self.both((ROW, ((0, "a"), (1, "b"), (1, 2)))))
        # 1 is the least one of a block only behind the first cut, and 4 behind the last.
        self.assertFalse(self.both((ROW, ((1, "b"), (0, "a"), (1, 0)))))
        self.assertFalse(self.both((ROW, ((0, 1), (0, "a"), (1, "b")))))

    def test_names_that_are_none(self):
        for name in ("", "some", "yes", "A", "a1", "abcdefghi", b"a", ("a",), ["a"], None):
            self.assertFalse(self.both((ROW, ((0, name), (1, "b"), (1, 0)))), name)

    def test_a_block_cut_by_itself(self):
        # From 0 a step leads to the block, from 1 none; and then from one to the other.
        machine = (((1,), ()), ((), ()))
        self.assertTrue(self.both(((0, 1), ((0, 0),)), machine))
        self.assertFalse(self.both(((0, 1), ((0, 1),)), machine))
        self.assertTrue(self.both((ALL, ((0, 0), *[(0, one) for one in range(39, 1, -1)])), CHAIN))

    def test_that_of_another_machine(self):
        told = classes(MACHINE)
        for machine in (CHAIN, (put(MACHINE[0], 6, (0,)), MACHINE[1]), (MACHINE[0], put(MACHINE[1], 3, ("b",))),
                        (MACHINE[0][:4], MACHINE[1][:4])):
            self.both(told, machine)
        for chance in helper.chances(100):
            many = chance.randint(1, 4)
            self.both(classes(helper.some_machine(chance, many)), helper.some_machine(chance, many))

    def test_all_papers_of_small_machines(self):
        for chance in helper.chances(8):
            machine = helper.some_machine(chance, 3)
            machine = (machine[0], tuple(tuple(set(row) & {"a"}) for row in machine[1]))
            pairs = list(itertools.product(range(3), (0, 1, 2, "a")))
            right = 0
            for many in range(4):
                for cuts in itertools.product(pairs, repeat=many):
                    right += self.both((by_parting(machine), cuts), machine)
            self.assertGreater(right, 0)

    def test_pairs_that_are_none(self):
        row, cuts = classes(MACHINE)
        for thing in ((row,), (row, cuts, ()), [row, cuts], (list(row), cuts), (row, list(cuts)), (cuts, row), row, cuts, (),
                      (row, tuple(map(list, cuts))), (row, put(cuts, 0, (*cuts[0], 0))), (row, put(cuts, 0, cuts[0][:1])),
                      (row[:6], cuts), (row + (4,), cuts), (row + (0,), cuts)):
            self.assertFalse(self.both(thing), thing)

    def test_anything_at_any_depth(self):
        right = 0
        for thing in helper.changes((ROW, ((0, "a"), (1, "b"), (1, 0)))):
            right += self.both(thing)
        self.assertGreater(right, 1)


class Quotient(unittest.TestCase):
    def check(self, machine, row):
        told = quotient(machine, row)
        self.assertTrue(helper.is_plain(told))
        self.assertIs(check(told), True)
        many = max(row) + 1
        steps = tuple(tuple(sorted({row[other] for one, led in enumerate(machine[0]) if row[one] == home for other in led}))
                      for home in range(many))
        self.assertEqual(told, (steps, tuple(machine[1][row.index(home)] for home in range(many))))
        return told

    def test_by_the_row_of_classes(self):
        self.assertEqual(self.check(MACHINE, ROW), (((1,), (0, 2), (), ()), (("a",), (), (), ("b",))))
        self.assertEqual(self.check(RING, (0,) * 40), (((0,),), ((),)))
        for chance in helper.chances(60):
            machine = told_over(helper.some_machine(chance, chance.randint(1, 6)), 2)
            told = self.check(machine, classes(machine)[0])
            # In it no two standings are alike.
            self.assertEqual(classes(told)[0], tuple(range(len(told[0]))))

    def test_by_the_row_of_unlike_numbers(self):
        for machine in (MACHINE, CHAIN, MARKED):
            self.assertEqual(self.check(machine, tuple(range(len(machine[0])))), machine)

    def test_by_each_row(self):
        for chance in helper.chances(25):
            machine = helper.some_machine(chance, chance.randint(1, 4))
            if chance.random() < 0.5:
                machine = told_over(helper.some_machine(chance, 2), 2)
            many = len(machine[0])
            rows = steady_rows(machine)
            for row in itertools.product(range(-1, many + 1), repeat=many):
                if row in rows:
                    self.check(machine, row)
                else:
                    self.assertIs(type(helper.refusal(quotient, machine, row)), NoPaper)

    def test_rows_that_are_none(self):
        for row in (ROW[:6], ROW + (4,), ROW + (0,), (), (1, 0, 1, 0, 2, 0, 3), (0, 2, 0, 2, 1, 2, 3), (0,) * 7, list(ROW),
                    (0, 1, 0, 1, 2, 1, 2), (0, 1, 0, 1, 1, 1, 2), (False, True, False, True, 2, 1, 3), put(ROW, 1, True),
                    put(ROW, 0, False), (ROW,), None, "0101213"):
            self.assertIs(type(helper.refusal(quotient, MACHINE, row)), NoPaper, row)
        for row in ((0, 1, 0, 1, 2, 1, 3), (0, 1, 2, 3, 4, 1, 5), (0, 1, 2, 3, 4, 5, 6), (0, 1, 0, 1, 2, 3, 4)):
            self.check(MACHINE, row)

    def test_anything_at_any_depth(self):
        right = 0
        for row in helper.changes(ROW):
            told = helper.refusal(quotient, MACHINE, row)
            if is_steady(MACHINE, row):
                right += 1
                self.assertEqual(told, quotient(MACHINE, row))
            else:
                self.assertIs(type(told), NoPaper, repr(row)[:200])
        self.assertGreater(right, 3)

    def test_telling_of_it_agrees(self):
        for chance in helper.chances(120):
            machine = helper.some_machine(chance, chance.randint(1, 4))
            machine = chance.choice([machine, told_over(machine, 2)])
            rows = [classes(machine)[0], tuple(range(len(machine[0])))]
            if len(machine[0]) < 5:
                rows = steady_rows(machine)
            saying = helper.some_saying(chance, 15)
            wishes = helper.some_wishes(chance, chance.randint(0, 4))
            told = tell(machine, saying, wishes=wishes)
            for row in rows:
                other = tell(quotient(machine, row), saying, wishes=wishes)
                self.assertEqual([tuple(one for one, home in enumerate(row) if home in homes) for homes in other], list(told))


if __name__ == "__main__":
    unittest.main()
