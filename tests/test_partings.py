"""Points 3 and 34: sayings that hold at one class alone, and sayings that part two standings."""

import itertools
import unittest

from fairtrees.errors import AreAlike
from fairtrees.partings import parting, saying_of
from fairtrees.sayings import check
from fairtrees.telling import holds, tell
from tests import helper
from tests.test_classes import ALL, CHAIN, MACHINE, MARKED, RING, by_parting, told_over

KINDS = {"yes", "mark", "not", "and", "step"}


class Partings(unittest.TestCase):
    def is_saying(self, saying):
        self.assertTrue(type(saying) is tuple and helper.is_plain(saying))
        self.assertIs(check(saying), True)
        self.assertLessEqual({row[0] for row in saying}, KINDS)

    def of_each(self, machine):
        row = by_parting(machine)
        for standing in range(len(row)):
            saying = saying_of(machine, standing)
            self.is_saying(saying)
            self.assertEqual(tell(machine, saying)[-1], tuple(one for one, home in enumerate(row) if home == row[standing]))
            self.assertEqual(saying_of(machine, standing), saying)

    def of_each_two(self, machine, step=1):
        row = by_parting(machine)
        for one, other in list(itertools.product(range(len(row)), repeat=2))[::step]:
            told = helper.refusal(parting, machine, one, other)
            if row[one] == row[other]:
                self.assertIs(type(told), AreAlike)
            else:
                self.is_saying(told)
                self.assertIs(holds(machine, told, one), True)
                self.assertIs(holds(machine, told, other), False)
                self.assertEqual(parting(machine, one, other), told)

    def test_ordinary_ones(self):
        self.of_each(MACHINE)
        self.of_each_two(MACHINE)

    def test_all_are_alike(self):
        self.of_each(RING)
        self.of_each_two(RING, 17)
        self.assertEqual(tell(RING, saying_of(RING, 7))[-1], ALL)

    def test_one_and_itself(self):
        for machine in (MACHINE, CHAIN, (((),), ((),))):
            for standing in range(len(machine[0])):
                self.assertIs(type(helper.refusal(parting, machine, standing, standing)), AreAlike)

    def test_chains_of_40_standings(self):
        back = (((),) + tuple((one,) for one in ALL[:39]), ((),) * 40)
        for machine in (CHAIN, back, MARKED):
            self.of_each(machine)
            self.of_each_two(machine, 41)

    def test_one_standing(self):
        self.of_each((((),), ((),)))
        self.of_each((((0,),), (("a", "b"),)))

    def test_machines_by_chance(self):
        for chance in helper.chances(30):
            machine = helper.some_machine(chance, chance.randint(1, 7))
            self.of_each(machine)
            self.of_each_two(machine)

    def test_standings_told_several_times_over(self):
        for chance in helper.chances(15):
            machine = told_over(helper.some_machine(chance, chance.randint(1, 4)), 3)
            self.of_each(machine)
            self.of_each_two(machine, 5)

    def test_40_standings_by_chance(self):
        for chance in helper.chances(1):
            self.of_each(helper.some_machine(chance, 40))

    def test_they_hold_whatever_the_wishes(self):
        wishes = (("", "zz"), ("a", "b"))
        for standing in range(7):
            saying = saying_of(MACHINE, standing)
            self.assertEqual(tell(MACHINE, saying, wishes=wishes), tell(MACHINE, saying))


if __name__ == "__main__":
    unittest.main()
