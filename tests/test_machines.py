"""Points 4, 5 and 6: machines, wishes, and what is asked of standings."""

import unittest

from fairtrees import machines
from fairtrees.errors import NoMachine, NoWishes
from tests import helper

EIGHT = ("a", "b", "c", "d", "e", "f", "g", "h")
ORDINARY = (((1, 2), (0,), (), (1, 3)), (("a",), ("a", "b"), (), ("mark",)))


def is_machine(thing):
    """Say by Python's own means whether the thing is a machine."""
    if type(thing) is not tuple or len(thing) != 2 or [type(one) for one in thing] != [tuple, tuple]:
        return False
    steps, marks = thing
    if not 0 < len(steps) < 41 or len(marks) != len(steps):
        return False
    if any(type(row) is not tuple for row in steps + marks):
        return False
    if any(type(one) is not int or one not in range(len(steps)) for row in steps for one in row):
        return False
    if any(not helper.is_name(one) for row in marks for one in row) or any(len(row) > 8 for row in marks):
        return False
    return all(sorted(set(row)) == list(row) for row in steps + marks)


def is_wishes(thing):
    """Say by Python's own means whether the thing is wishes."""
    if type(thing) is not tuple or len(thing) > 4:
        return False
    for pair in thing:
        if type(pair) is not tuple or len(pair) != 2 or [type(one) for one in pair] != [str, str]:
            return False
        if pair[0] != "" and not helper.is_name(pair[0]) or not helper.is_name(pair[1]):
            return False
    return True


class Check(unittest.TestCase):
    def refused(self, thing):
        with self.assertRaises(NoMachine):
            machines.check(thing)

    def test_an_ordinary_machine(self):
        self.assertIs(machines.check(ORDINARY), True)

    def test_one_and_forty_standings(self):
        self.assertIs(machines.check((((),), ((),))), True)
        self.assertIs(machines.check((((0,),), ((),))), True)
        self.assertIs(machines.check((((),) * 40, ((),) * 40)), True)
        self.assertIs(machines.check(((tuple(range(40)),) * 40, (EIGHT,) * 40)), True)

    def test_none_and_forty_one_standings(self):
        self.refused(((), ()))
        self.refused((((),) * 41, ((),) * 41))

    def test_none_eight_and_nine_names(self):
        self.assertIs(machines.check((((),), ((),))), True)
        self.assertIs(machines.check((((),), (EIGHT,))), True)
        self.refused((((),), ((*EIGHT, "i"),)))

    def test_numbers_beyond_the_last_standing_and_negative_ones(self):
        self.assertIs(machines.check((((1,), ()), ((), ()))), True)
        for number in (2, -1, 10 ** 999, -10 ** 999):
            self.refused((((number,), ()), ((), ())))

    def test_true_and_false_in_the_place_of_numbers(self):
        self.refused((((False,),), ((),)))
        self.refused((((), (True,)), ((), ())))
        self.refused((((False, True), ()), ((), ())))

    def test_lists_in_the_place_of_tuples(self):
        self.refused([((),), ((),)])
        self.refused(([()], ((),)))
        self.refused((((),), [()]))
        self.refused((([],), ((),)))
        self.refused((((),), ([],)))

    def test_rows_that_do_not_rise(self):
        self.refused((((1, 0), ()), ((), ())))
        self.refused((((0, 0), ()), ((), ())))
        self.refused((((),), (("b", "a"),)))
        self.refused((((),), (("a", "a"),)))

    def test_another_number_of_marks_than_of_steps(self):
        self.refused((((),), ()))
        self.refused((((),), ((), ())))
        self.refused((((), ()), ((),)))

    def test_marks_that_are_no_names(self):
        for name in ("", "A", "a1", "a b", "a\n", "abcdefghi", *helper.WORDS, 0, None, ("a",)):
            self.refused((((),), ((name,),)))

    def test_anything_at_any_depth(self):
        for machine in (ORDINARY, (((),), ((),)), (((0, 1), (1,)), (("a", "b"), EIGHT))):
            for thing in helper.changes(machine):
                if is_machine(thing):
                    self.assertIs(machines.check(thing), True, repr(thing)[:80])
                else:
                    self.refused(thing)

    def test_machines_by_chance(self):
        for many, chance in enumerate(helper.chances(40), start=1):
            machine = helper.some_machine(chance, many)
            self.assertTrue(is_machine(machine))
            self.assertIs(machines.check(machine), True)


class Wishes(unittest.TestCase):
    def refused(self, thing):
        with self.assertRaises(NoWishes):
            machines.check_wishes(thing)

    def test_none_four_and_five_wishes(self):
        self.assertIs(machines.check_wishes(()), True)
        self.assertIs(machines.check_wishes((("", "a"), ("a", "b"), ("a", "b"), ("b", "b"))), True)
        self.refused((("", "a"),) * 5)

    def test_the_text_without_signs(self):
        self.assertIs(machines.check_wishes((("", "a"),)), True)
        self.refused((("a", ""),))
        self.refused((("", ""),))

    def test_pairs_that_are_none(self):
        for pair in ((), ("a",), ("a", "b", "c"), ["a", "b"], "ab", None, {"a": "b"}, 0):
            self.refused((pair,))

    def test_what_is_no_name(self):
        for name in (" ", "A", "a1", "a\n", "abcdefghi", *helper.WORDS, 0, None, True, ("a",)):
            self.refused(((name, "a"),))
            self.refused((("a", name),))

    def test_anything_at_any_depth(self):
        for thing in helper.changes((("", "a"), ("b", "c"))):
            if is_wishes(thing):
                self.assertIs(machines.check_wishes(thing), True, repr(thing)[:80])
            else:
                self.refused(thing)


class Standings(unittest.TestCase):
    def test_bearers(self):
        self.assertEqual(machines.bearers(ORDINARY, "a"), (0, 1))
        self.assertEqual(machines.bearers(ORDINARY, "b"), (1,))
        self.assertEqual(machines.bearers(ORDINARY, "mark"), (3,))
        self.assertEqual(machines.bearers(ORDINARY, "zz"), ())
        self.assertEqual(machines.bearers(ORDINARY, ""), (0, 1, 2, 3))
        self.assertEqual(machines.bearers((((),), ((),)), ""), (0,))

    def test_bears(self):
        self.assertIs(machines.bears(ORDINARY, 1, "b"), True)
        self.assertIs(machines.bears(ORDINARY, 0, "b"), False)
        self.assertIs(machines.bears(ORDINARY, 2, ""), True)

    def test_is_borne(self):
        self.assertIs(machines.is_borne(ORDINARY, (2, 1), "b"), True)
        self.assertIs(machines.is_borne(ORDINARY, (0, 2), "b"), False)
        self.assertIs(machines.is_borne(ORDINARY, (2,), ""), True)
        self.assertIs(machines.is_borne(ORDINARY, (), ""), False)

    def test_standings_of(self):
        self.assertEqual(machines.standings_of(ORDINARY), (0, 1, 2, 3))
        self.assertEqual(machines.standings_of((((),), ((),))), (0,))

    def test_back_rows(self):
        for machine in (ORDINARY, (((),), ((),)), *[helper.some_machine(chance, 20) for chance in helper.chances(9)]):
            told = [list(machines.behind(machine, one)) for one in range(len(machine[0]))]
            self.assertEqual(machines.back_rows(machine), told)

    def test_behind(self):
        self.assertEqual([machines.behind(ORDINARY, one) for one in range(4)], [(1,), (0, 3), (0,), (3,)])
        self.assertEqual(machines.behind((((),), ((),)), 0), ())

    def test_reached_has_the_standing_itself(self):
        self.assertEqual([machines.reached(ORDINARY, one) for one in range(4)], [(0, 1, 2), (0, 1, 2), (2,), (0, 1, 2, 3)])
        self.assertEqual(machines.reached((((),), ((),)), 0), (0,))
        self.assertEqual(machines.reached((((0,),), ((),)), 0), (0,))

    def test_reached_along_a_chain_and_back(self):
        chain = tuple((one + 1,) for one in range(39)) + ((),)
        self.assertEqual(machines.reached((chain, ((),) * 40), 0), tuple(range(40)))
        self.assertEqual(machines.reached((chain, ((),) * 40), 37), (37, 38, 39))
        back = ((),) + tuple((one,) for one in range(39))
        self.assertEqual(machines.reached((back, ((),) * 40), 39), tuple(range(40)))

    def test_machines_by_chance(self):
        for many, chance in enumerate(helper.chances(40), start=1):
            machine = helper.some_machine(chance, many)
            lead = [[other in machine[0][one] or other == one for other in range(many)] for one in range(many)]
            for mid in range(many):
                for one in range(many):
                    for other in range(many):
                        lead[one][other] = lead[one][other] or lead[one][mid] and lead[mid][other]
            for one in range(many):
                self.assertEqual(machines.reached(machine, one), tuple(k for k in range(many) if lead[one][k]))
                self.assertEqual(machines.behind(machine, one), tuple(k for k in range(many) if one in machine[0][k]))
            for name in ("a", "b", "dd"):
                self.assertEqual(machines.bearers(machine, name), tuple(k for k in range(many) if name in machine[1][k]))


if __name__ == "__main__":
    unittest.main()
