"""Point 18: until, ever and unless, by rounds and by worklists."""

import inspect
import itertools
import unittest

from fairtrees import ways
from fairtrees.errors import NoWay
from fairtrees.ways import Rounds, Way, Worklist
from tests import helper

ALL = tuple(range(40))
ONWARD = (tuple((one + 1,) for one in range(39)) + ((),), ((),) * 40)
BACKWARD = (((),) + tuple((one,) for one in range(39)), ((),) * 40)
RING = (tuple(((one + 1) % 40,) for one in range(40)), ((),) * 40)

# 0 to 3 are one ring; 1 to 3 are one without 0; 2 and 3 are one without 1; and 4 is left by nobody.
NESTED = (((1,), (2,), (3,), (0, 1, 2), (0, 4)), (("a",), ("b",), (), (), ("c",)))
SETS = [row for many in range(4) for row in itertools.combinations(range(3), many)]


class Ways:
    """What holds of both ways; way is told by the classes below."""

    way = None

    def until(self, machine, within, goal, told):
        self.assertEqual(self.way.until(machine, within, goal), told)

    def ever(self, machine, within, wishes, told):
        self.assertEqual(self.way.ever(machine, within, wishes=wishes), told)
        self.assertEqual(self.way.unless(machine, within, (), wishes=wishes), told)

    def test_each_method_stands_in_the_class_itself(self):
        for name in ("until", "ever", "unless"):
            self.assertTrue(inspect.isfunction(vars(type(self.way))[name]))
        self.assertIsInstance(self.way, Way)

    def test_one_standing(self):
        for steps, told in (((), ()), ((0,), (0,))):
            machine = ((steps,), (("a",),))
            self.until(machine, (0,), (), ())
            self.until(machine, (), (0,), (0,))
            self.until(machine, (0,), (0,), (0,))
            self.ever(machine, (0,), (), told)
            self.ever(machine, (0,), (("", "a"),), told)
            self.ever(machine, (0,), (("", "b"),), ())
            self.ever(machine, (0,), (("a", "b"),), ())
            self.ever(machine, (0,), (("b", "zz"),), told)
            self.ever(machine, (), (), ())

    def test_rows_of_39_steps_either_way(self):
        self.until(ONWARD, ALL, (39,), ALL)
        self.until(ONWARD, ALL, (0,), (0,))
        self.until(ONWARD, ALL[20:], (39,), ALL[20:])
        self.until(ONWARD, ALL[:39], (39,), ALL)
        self.until(ONWARD, tuple(one for one in ALL if one != 7), (39,), ALL[8:])
        self.until(BACKWARD, ALL, (0,), ALL)
        self.until(BACKWARD, ALL, (39,), (39,))
        self.until(BACKWARD, tuple(one for one in ALL if one != 7), (0,), ALL[:7])
        for machine in (ONWARD, BACKWARD):
            self.ever(machine, ALL, (), ())
            self.ever(machine, ALL, (("", "a"), ("a", "zz")), ())
        still = (ONWARD[0][:39] + ((39,),), ONWARD[1])
        self.ever(still, ALL, (), ALL)
        self.ever(still, tuple(one for one in ALL if one != 7), (), ALL[8:])
        still = (((0,),) + BACKWARD[0][1:], BACKWARD[1])
        self.ever(still, ALL, (), ALL)
        self.ever(still, ALL[1:], (), ())

    def test_forty_standings_in_a_ring(self):
        marks = tuple(("a",) if one == 17 else ("b",) if one == 30 else () for one in ALL)
        machine = (RING[0], marks)
        self.ever(machine, ALL, (), ALL)
        self.ever(machine, ALL[1:], (), ())
        self.ever(machine, ALL, (("", "a"), ("a", "b"), ("b", "a"), ("zz", "yy")), ALL)
        self.ever(machine, ALL, (("", "a"), ("a", "b"), ("b", "zz"), ("zz", "yy")), ())
        self.until(machine, ALL[1:], (0,), ALL)
        self.until(machine, ALL[:20], (39,), (39,))
        self.until(machine, ALL[30:], (2,), (2,))
        self.until(machine, (0, 1) + ALL[30:], (2,), (0, 1, 2) + ALL[30:])

    def test_all_steps(self):
        machine = ((ALL,) * 40, ((),) * 39 + (("a",),))
        self.until(machine, ALL, (5,), ALL)
        self.until(machine, (1, 2), (5, 9), (1, 2, 5, 9))
        self.ever(machine, ALL, (("", "a"),), ALL)
        self.ever(machine, ALL[:39], (("", "a"),), ())
        self.ever(machine, ALL[:39], (("a", "zz"),), ALL[:39])
        self.ever(machine, ALL, (("a", "zz"), ("", "a")), ())

    def test_empty_sets(self):
        self.until(NESTED, (), (), ())
        self.until(NESTED, (0, 1, 2, 3, 4), (), ())
        self.until(NESTED, (), (2, 3), (2, 3))
        self.ever(NESTED, (), (), ())
        self.assertEqual(self.way.unless(NESTED, (), ()), ())
        self.assertEqual(self.way.unless(NESTED, (), (1,)), (1,))

    def test_a_goal_outside_of_within(self):
        self.until(NESTED, (4,), (0,), (0, 4))
        self.until(NESTED, (2, 3), (1,), (1, 2, 3))
        self.until(NESTED, (0, 4), (2,), (2,))
        self.assertEqual(self.way.unless(NESTED, (4,), (2,)), (2, 4))
        self.assertEqual(self.way.unless(NESTED, (4,), (2,), wishes=(("c", "zz"),)), (2,))

    def test_wishes_left_out(self):
        self.assertEqual(self.way.ever(NESTED, (0, 1, 2, 3)), (0, 1, 2, 3))
        self.assertEqual(self.way.ever(NESTED, (0, 1, 2)), ())
        self.assertEqual(self.way.unless(NESTED, (0, 1, 2), (3,)), (0, 1, 2, 3))
        self.assertEqual(self.way.unless(NESTED, (2, 3), ()), (2, 3))

    def test_parted_anew_and_again(self):
        whole = (0, 1, 2, 3, 4)
        self.ever(NESTED, whole, (("a", "zz"),), whole)
        self.ever(NESTED, whole, (("a", "zz"), ("b", "zz")), whole)
        self.ever(NESTED, whole, (("b", "zz"), ("a", "zz"), ("c", "a")), whole)
        self.ever(NESTED, whole, (("a", "zz"), ("b", "zz"), ("", "b")), ())
        self.ever(NESTED, whole, (("a", "zz"), ("b", "zz"), ("", "c")), (4,))
        self.ever(NESTED, (0, 1, 2, 3), (("a", "zz"), ("b", "a")), (0, 1, 2, 3))
        self.ever(NESTED, (0, 1, 3), (("a", "zz"), ("b", "a")), ())

    def test_four_partings(self):
        machine = (((1,), (2,), (3,), (4,), (0, 1, 2, 3, 4)), (("a",), ("b",), ("c",), ("dd",), ()))
        still = (machine[0][:4] + ((0, 1, 2, 3),), machine[1])
        wishes = (("a", "zz"), ("b", "zz"), ("c", "zz"), ("dd", "zz"))
        for order in itertools.permutations(wishes):
            self.ever(machine, (0, 1, 2, 3, 4), order, (0, 1, 2, 3, 4))
            self.ever(still, (0, 1, 2, 3, 4), order, ())
            self.ever(still, (0, 1, 2, 3, 4), order[:3], (0, 1, 2, 3, 4) if ("dd", "zz") not in order[:3] else ())

    def test_a_when_that_is_left_only_by_leaving_another(self):
        # Each standing with a step to itself: it wants what only the next one bears, and the last wants what none does.
        steps = tuple((one, one + 1) for one in range(39)) + ((39,),)
        marks = tuple(("a", "dd") if one % 2 else ("b", "c") for one in ALL)
        self.ever((steps, marks), ALL, (("a", "b"), ("c", "dd")), ())
        self.ever((steps, marks), ALL, (("a", "b"),), ALL[:39])
        self.ever((steps, marks), ALL, (("a", "dd"), ("c", "dd")), ALL)
        self.ever((steps, marks), ALL[:39], (("a", "dd"), ("b", "dd")), ALL[:38])

    def test_all_machines_of_three_standings(self):
        marks = (("a",), ("b",), ())
        wishes = (("a", "b"), ("b", "zz"))
        for number, steps in enumerate(itertools.product(SETS, repeat=3)):
            machine = (steps, marks)
            for within in SETS:
                ever = helper.ever_of(machine, within, wishes)
                self.ever(machine, within, wishes, ever)
                goal = SETS[number % 8]
                until = helper.until_of(machine, within, goal)
                self.until(machine, within, goal, until)
                told = self.way.unless(machine, within, goal, wishes=wishes)
                self.assertEqual(told, tuple(sorted(set(until) | set(ever))))

    def test_small_machines_by_chance(self):
        for chance in helper.chances(300):
            many = chance.randint(1, 6)
            machine = helper.some_machine(chance, many)
            within, goal = helper.some_set(chance, many), helper.some_set(chance, many)
            wishes = helper.some_wishes(chance, chance.randint(0, 4))
            until, ever = helper.until_of(machine, within, goal), helper.ever_of(machine, within, wishes)
            self.until(machine, within, goal, until)
            self.ever(machine, within, wishes, ever)
            told = self.way.unless(machine, within, goal, wishes=wishes)
            self.assertEqual(told, tuple(sorted(set(until) | set(ever))))

    def test_great_machines_by_chance(self):
        for chance in helper.chances(80):
            many = chance.randint(20, 40)
            machine = helper.some_machine(chance, many)
            within = helper.some_set(chance, many)
            wishes = helper.some_wishes(chance, chance.randint(0, 4))
            self.ever(machine, within, wishes, helper.ever_by_choice(machine, within, wishes))

    def test_the_same_way_asked_of_another_machine_in_between(self):
        wishes = (("a", "zz"), ("", "c"))
        first = [self.way.until(NESTED, (0, 1), (2,)), self.way.ever(NESTED, (0, 4), wishes=wishes),
                 self.way.unless(NESTED, (4,), (0,), wishes=wishes)]
        self.assertEqual(first, [(0, 1, 2), (4,), (0, 4)])
        self.way.until(ONWARD, ALL, (39,))
        self.way.ever(RING, ALL)
        self.way.unless(BACKWARD, ALL, (0,), wishes=(("", "a"),))
        again = [self.way.until(NESTED, (0, 1), (2,)), self.way.ever(NESTED, (0, 4), wishes=wishes),
                 self.way.unless(NESTED, (4,), (0,), wishes=wishes)]
        self.assertEqual(again, first)
        self.assertEqual(vars(self.way), {})


class ByRounds(Ways, unittest.TestCase):
    way = Rounds()


class ByWorklist(Ways, unittest.TestCase):
    way = Worklist()


class Alike(unittest.TestCase):
    def test_both_ways_tell_the_same(self):
        for chance in helper.chances(120):
            many = chance.choice([chance.randint(1, 12), chance.randint(30, 40)])
            machine = helper.some_machine(chance, many)
            within, goal = helper.some_set(chance, many), helper.some_set(chance, many)
            wishes = helper.some_wishes(chance, chance.randint(0, 4))
            one, other = Rounds(), Worklist()
            self.assertEqual(one.until(machine, within, goal), other.until(machine, within, goal))
            self.assertEqual(one.ever(machine, within, wishes=wishes), other.ever(machine, within, wishes=wishes))
            told = one.unless(machine, within, goal, wishes=wishes)
            self.assertEqual(told, other.unless(machine, within, goal, wishes=wishes))
            self.assertTrue(type(told) is tuple and helper.is_plain(told))

    def test_neither_is_under_the_other(self):
        self.assertTrue(issubclass(Rounds, Way) and issubclass(Worklist, Way))
        self.assertFalse(issubclass(Rounds, Worklist) or issubclass(Worklist, Rounds))

    def test_endless_runs_by_rounds_and_by_counts(self):
        for chance in helper.chances(100):
            many = chance.randint(1, 40)
            machine = helper.some_machine(chance, many)
            within = helper.some_set(chance, many)
            told = helper.ever_by_choice(machine, within, ())
            self.assertEqual(ways.leading_on(machine, within), told)
            self.assertEqual(ways.lasting(machine, within), told)


class WayItself(unittest.TestCase):
    def test_it_refuses_each_of_the_three(self):
        with self.assertRaises(NoWay):
            Way().until(NESTED, (0, 1), (2,))
        with self.assertRaises(NoWay):
            Way().ever(NESTED, (0, 1))
        with self.assertRaises(NoWay):
            Way().ever(NESTED, (0, 1), wishes=(("", "a"),))
        with self.assertRaises(NoWay):
            Way().unless(NESTED, (0, 1), (2,))
        with self.assertRaises(NoWay):
            Way().unless(NESTED, (0, 1), (2,), wishes=(("", "a"),))
        with self.assertRaises(NoWay):
            Way().until(NESTED, (), ())

    def test_its_methods_stand_in_it(self):
        for name in ("until", "ever", "unless"):
            self.assertTrue(inspect.isfunction(vars(Way)[name]))


if __name__ == "__main__":
    unittest.main()
