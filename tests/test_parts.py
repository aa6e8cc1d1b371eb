"""Points 6, 18 and 19: strong parts, and fair runs within a set."""

import itertools
import unittest

from fairtrees.parts import fair_run, strong_parts
from tests import helper

RING = (tuple(((one + 1) % 40,) for one in range(40)), ((),) * 40)
ROW = (tuple((one + 1,) for one in range(39)) + ((),), ((),) * 40)
BACK = (((),) + tuple((one,) for one in range(39)), ((),) * 40)
ALL = tuple(range(40))

# 0 to 3 are one ring; 1 to 3 are one without 0; 2 and 3 are one without 1; and 4 is left by nobody.
NESTED = (((1,), (2,), (3,), (0, 1, 2), (0, 4)), (("a",), ("b",), (), (), ("c",)))


class Parts(unittest.TestCase):
    def parts(self, machine, within):
        """Tell the parts as a set of sets, where all that is promised of them is so."""
        told = strong_parts(machine, within)
        self.assertIs(type(told), list)
        self.assertTrue(all(type(part) is tuple and helper.is_plain(part) for part in told))
        self.assertTrue(all(part and part == tuple(sorted(set(part))) for part in told))
        self.assertEqual(sorted(one for part in told for one in part), list(within))
        for first, last in itertools.combinations(told, 2):
            self.assertFalse([(one, other) for one in first for other in last if other in machine[0][one]])
        pairs = helper.leads(machine, within)
        for part in told:
            for one in within:
                both = (one, part[0]) in pairs and (part[0], one) in pairs
                self.assertEqual(one in part, both or one == part[0])
        return set(told)

    def test_the_empty_set(self):
        self.assertEqual(strong_parts(RING, ()), [])
        self.assertEqual(strong_parts((((),), ((),)), ()), [])

    def test_all_standings(self):
        self.assertEqual(self.parts(NESTED, (0, 1, 2, 3, 4)), {(0, 1, 2, 3), (4,)})
        self.assertEqual(self.parts((((),), ((),)), (0,)), {(0,)})
        self.assertEqual(self.parts((((0,),), ((),)), (0,)), {(0,)})

    def test_those_come_first_that_lead_to_no_other(self):
        machine = (((1,), (0, 2), (3,), (2,)), ((),) * 4)
        self.assertEqual(strong_parts(machine, (0, 1, 2, 3)), [(2, 3), (0, 1)])
        machine = (((1,), (0,), (3, 0), (2,)), ((),) * 4)
        self.assertEqual(strong_parts(machine, (0, 1, 2, 3)), [(0, 1), (2, 3)])

    def test_sets_through_which_a_ring_goes_only_in_part(self):
        self.assertEqual(self.parts(NESTED, (1, 2, 3)), {(1, 2, 3)})
        self.assertEqual(self.parts(NESTED, (0, 2, 3)), {(0,), (2, 3)})
        self.assertEqual(self.parts(NESTED, (0, 1, 2)), {(0,), (1,), (2,)})
        self.assertEqual(self.parts(RING, ALL[:39]), {(one,) for one in range(39)})

    def test_40_standings_in_one_ring_and_in_one_row(self):
        self.assertEqual(self.parts(RING, ALL), {ALL})
        self.assertEqual(strong_parts(ROW, ALL), [(one,) for one in range(39, -1, -1)])
        self.assertEqual(strong_parts(BACK, ALL), [(one,) for one in range(40)])

    def test_all_steps(self):
        self.assertEqual(self.parts(((ALL,) * 40, ((),) * 40), ALL), {ALL})
        self.assertEqual(self.parts(((ALL,) * 40, ((),) * 40), ALL[::3]), {ALL[::3]})

    def test_all_machines_of_three_standings(self):
        sets = [row for many in range(4) for row in itertools.combinations(range(3), many)]
        for steps in itertools.product(sets, repeat=3):
            for within in sets:
                self.parts((steps, ((),) * 3), within)

    def test_machines_by_chance(self):
        for seed, chance in enumerate(helper.chances(200)):
            many = seed % 40 + 1
            machine = helper.some_machine(chance, many)
            self.parts(machine, helper.some_set(chance, many))

    def test_a_told_list_that_is_changed_changes_no_later_answer(self):
        told = strong_parts(NESTED, (0, 1, 2, 3, 4))
        kept = list(told)
        told.clear()
        self.assertEqual(strong_parts(NESTED, (0, 1, 2, 3, 4)), kept)
        told = strong_parts(NESTED, ())
        told.append((7,))
        self.assertEqual(strong_parts(NESTED, ()), [])


class FairRuns(unittest.TestCase):
    def right(self, machine, standing, within, wishes):
        """Tell the told run, where all that is promised of it is so."""
        told = fair_run(machine, standing, within, wishes=wishes)
        self.assertTrue(helper.is_run(machine, told), told)
        self.assertTrue(helper.is_plain(told))
        path, ring = told
        self.assertTrue(set(path + ring) <= set(within))
        self.assertEqual((path + ring)[0], standing)
        self.assertTrue(helper.met(machine, ring, wishes), (told, wishes))
        self.assertEqual(fair_run(machine, standing, within, wishes=wishes), told)
        return told

    def none(self, machine, standing, within, wishes):
        self.assertIsNone(fair_run(machine, standing, within, wishes=wishes))

    def test_a_standing_that_is_not_of_within(self):
        self.none(RING, 0, (), ())
        self.none(RING, 0, ALL[1:], ())
        self.none((((0, 1), (1,)), ((), ())), 0, (1,), ())

    def test_no_ring_is_reached(self):
        for standing in (0, 20, 39):
            self.none(ROW, standing, ALL, ())
            self.none(BACK, standing, ALL, ())
            self.none(RING, standing, tuple(one for one in ALL if one != 7), ())
        self.none((((),), ((),)), 0, (0,), ())
        # A ring is there, but no steps lead to it.
        self.none((((), (0, 1)), ((), ())), 0, (0, 1), ())

    def test_wishes_left_out(self):
        self.assertEqual(fair_run((((0,),), ((),)), 0, (0,)), ((), (0,)))
        self.assertEqual(fair_run((((1,), (1,)), ((), ())), 0, (0, 1)), ((0,), (1,)))
        self.assertIsNone(fair_run(ROW, 0, ALL))
        self.assertEqual(sorted(fair_run(RING, 7, ALL)[1]), list(ALL))

    def test_a_step_from_a_standing_to_itself(self):
        machine = (((0, 1), (2,), (2,)), (("a",), (), ("b",)))
        self.assertEqual(self.right(machine, 0, (0, 1, 2), (("", "a"),)), ((), (0,)))
        self.assertEqual(self.right(machine, 0, (0, 1, 2), (("", "b"),)), ((0, 1), (2,)))
        self.none(machine, 1, (0, 1, 2), (("", "a"),))
        self.none(machine, 0, (0, 1, 2), (("", "a"), ("", "b")))
        self.none(machine, 0, (0, 2), (("", "b"),))

    def test_each_strong_part_fails_a_wish(self):
        for wishes in ((("", "zz"),), (("a", "zz"), ("b", "zz"), ("", "c")), (("", "a"), ("b", "zz"))):
            for standing in range(4):
                self.none(NESTED, standing, (0, 1, 2, 3), wishes)

    def test_parted_anew(self):
        within = (0, 1, 2, 3, 4)
        for standing in range(4):
            path, ring = self.right(NESTED, standing, within, (("a", "zz"),))
            self.assertNotIn(0, ring)
            path, ring = self.right(NESTED, standing, within, (("a", "zz"), ("b", "zz")))
            self.assertEqual(set(ring), {2, 3})
            path, ring = self.right(NESTED, standing, within, (("b", "zz"), ("a", "c")))
            self.assertEqual(set(ring), {2, 3})
            self.none(NESTED, standing, within, (("a", "zz"), ("b", "zz"), ("", "b")))
            # Where 1 may not be left for good, 0 may not either.
            self.none(NESTED, standing, within, (("a", "zz"), ("b", "a"), ("", "b")))
            path, ring = self.right(NESTED, standing, within, (("b", "a"), ("", "b")))
            self.assertTrue({0, 1} <= set(ring))

    def test_parted_anew_and_nothing_left(self):
        # Without 0 the ring is broken; without 1 the rest of it is, too.
        machine = (((1,), (2,), (0, 1)), (("a",), ("b",), ()))
        self.none(machine, 0, (0, 1, 2), (("a", "zz"), ("b", "zz")))
        self.none(machine, 1, (0, 1, 2), (("a", "zz"), ("b", "zz")))
        self.assertEqual(set(self.right(machine, 0, (0, 1, 2), (("a", "zz"),))[1]), {1, 2})
        self.assertEqual(set(self.right(machine, 0, (0, 1, 2), (("b", "a"),))[1]), {0, 1, 2})

    def test_four_partings(self):
        # Rings in rings: from the last standing steps lead back to all.
        machine = (((1,), (2,), (3,), (4,), (0, 1, 2, 3, 4)), (("a",), ("b",), ("c",), ("dd",), ()))
        wishes = (("a", "zz"), ("b", "zz"), ("c", "zz"), ("dd", "zz"))
        for order in itertools.permutations(wishes):
            for standing in range(5):
                self.assertEqual(self.right(machine, standing, (0, 1, 2, 3, 4), order)[1], (4,))
        still = (machine[0][:4] + ((0, 1, 2, 3),), machine[1])
        for order in itertools.permutations(wishes):
            self.none(still, 0, (0, 1, 2, 3, 4), order)

    def test_forty_standings_and_four_wishes(self):
        marks = [()] * 40
        for standing, name in ((39, "a"), (38, "b"), (37, "c"), (36, "dd")):
            marks[standing] = (name,)
        machine = (RING[0], tuple(marks))
        wishes = (("", "a"), ("a", "b"), ("b", "c"), ("c", "dd"))
        for standing in ALL:
            self.right(machine, standing, ALL, wishes)
        # One row to the end and long ways back, the names far from one another.
        steps = tuple((one + 1,) for one in range(39)) + ((20,),)
        marks = [()] * 40
        for standing, name in ((39, "a"), (38, "b"), (37, "c"), (36, "dd")):
            marks[standing] = (name,)
        for order in itertools.permutations((("", "a"), ("a", "b"), ("a", "c"), ("c", "dd"))):
            path, ring = self.right((steps, tuple(marks)), 0, ALL, order)
            self.assertEqual(path + ring[:20], ALL[:len(path) + 20])
            self.none((steps, tuple(marks)), 0, ALL, order[:3] + (("", "zz"),))

    def test_all_machines_of_three_standings_and_two_wishes(self):
        sets = [row for many in range(4) for row in itertools.combinations(range(3), many)]
        marks = (("a",), ("b",), ())
        wishes = (("a", "b"), ("b", "zz"))
        for steps in itertools.product(sets, repeat=3):
            machine = (steps, marks)
            for within in sets:
                told = helper.ever_of(machine, within, wishes)
                for standing in range(3):
                    if standing in told:
                        self.right(machine, standing, within, wishes)
                    else:
                        self.none(machine, standing, within, wishes)

    def test_small_machines_by_chance(self):
        seen = {True: 0, False: 0}
        for chance in helper.chances(300):
            many = chance.randint(1, 6)
            machine = helper.some_machine(chance, many)
            within = helper.some_set(chance, many)
            wishes = helper.some_wishes(chance, chance.randint(0, 4))
            told = helper.ever_of(machine, within, wishes)
            self.assertEqual(told, helper.ever_by_choice(machine, within, wishes))
            for standing in range(many):
                seen[standing in told] += 1
                if standing in told:
                    self.right(machine, standing, within, wishes)
                else:
                    self.none(machine, standing, within, wishes)
        self.assertGreater(min(seen.values()), 100)

    def test_great_machines_by_chance(self):
        for chance in helper.chances(60):
            many = chance.randint(30, 40)
            machine = helper.some_machine(chance, many)
            within = helper.some_set(chance, many)
            wishes = helper.some_wishes(chance, chance.randint(1, 4))
            told = helper.ever_by_choice(machine, within, wishes)
            for standing in chance.sample(range(many), 8):
                if standing in told:
                    self.right(machine, standing, within, wishes)
                else:
                    self.none(machine, standing, within, wishes)


if __name__ == "__main__":
    unittest.main()
