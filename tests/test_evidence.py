"""Point 20: evidence, and its judge."""

import itertools
import unittest

from fairtrees.evidence import evidence, right_evidence
from tests import helper
from tests.helper import put

ALL = tuple(range(40))

# 0 and 1 go round, 2 leads to them and to 3, 3 and 4 go round, 5 stands still by a step, 6 has no step.
MACHINE = (((1,), (0,), (1, 3), (4,), (3, 5), (5, 6), ()), (("a",), (), ("b",), ("a", "b"), ("c",), ("c",), ("a",)))
WHOLE = (0, 1, 2, 3, 4, 5, 6)
# Each run meets it but one that stays at 0 and 1.
WISHES = (("", "c"),)
TOLD = ((None, None, 1, 0, 0, 0, None), ((3, 4), (5,)), (((0, 0),), ((0, 0),), None, None, None, None, ((0, -1),)))


def judge(machine, within, goal, thing, wishes, ends):
    """Say whether the thing is evidence, sentence by sentence."""
    many = len(machine[0])
    if type(thing) is not tuple or len(thing) != 3 or [type(one) for one in thing] != [tuple] * 3:
        return False
    ranks, rings, shuts = thing
    if len(ranks) != many or any(rank is not None and not (type(rank) is int and rank >= 0) for rank in ranks):
        return False
    if not ends and (rings or shuts):
        return False
    for ring in rings:
        if not helper.is_run(machine, ((), ring)) or not set(ring) <= set(within) or not helper.met(machine, ring, wishes):
            return False
    zero = set(goal).union(*rings)
    for standing, rank in enumerate(ranks):
        onward = [ranks[other] for other in machine[0][standing] if ranks[other] is not None]
        if (rank == 0) != (standing in zero):
            return False
        if rank and not (standing in within and onward and min(onward) < rank):
            return False
        if rank is None and standing in within and onward:
            return False
    return not ends or shut(machine, [one for one in within if ranks[one] is None], shuts, wishes)


def shut(machine, inner, shuts, wishes):
    """Say whether shuts is right where inner are the standings of within without a rank."""
    if len(shuts) != len(machine[0]) or any(shuts[one] is not None for one in range(len(shuts)) if one not in inner):
        return False
    for one in inner:
        row = shuts[one]
        if type(row) is not tuple or not 1 <= len(row) <= len(wishes) + 1:
            return False
        if any(type(pair) is not tuple or len(pair) != 2 or {type(number) for number in pair} != {int} for pair in row):
            return False
        if any(number < 0 or wish not in range(-1, len(wishes)) for number, wish in row):
            return False

    def fits(one, other, row, beside):
        if not row or not beside:
            return False
        (high, wish), (low, another) = row[0], beside[0]
        if low < high:
            return True
        if low > high or another != wish or wish == -1:
            return False
        when, then = wishes[wish]
        if helper.marked(machine, one, then) or helper.marked(machine, other, then):
            return False
        if helper.marked(machine, one, when) or helper.marked(machine, other, when):
            return True
        return fits(one, other, row[1:], beside[1:])

    return all(fits(one, other, shuts[one], shuts[other]) for one in inner for other in machine[0][one] if other in inner)


def ranked(told):
    return tuple(standing for standing, rank in enumerate(told[0]) if rank is not None)


class Cases(unittest.TestCase):
    machine, within, goal, wishes, ends = MACHINE, WHOLE, (), WISHES, True

    def both(self, thing):
        """Tell what the judge says, where the one of this file says the same."""
        told = right_evidence(self.machine, self.within, self.goal, thing, wishes=self.wishes, ends=self.ends)
        self.assertIs(told, judge(self.machine, self.within, self.goal, thing, self.wishes, self.ends), repr(thing)[:200])
        return told

    def right(self, *thing):
        self.assertTrue(self.both(thing), thing)

    def wrong(self, *thing):
        self.assertFalse(self.both(thing), thing)


class Told(unittest.TestCase):
    def check(self, machine, within, goal, wishes, ends, yes):
        told = evidence(machine, within, goal, wishes=wishes, ends=ends)
        self.assertIs(right_evidence(machine, within, goal, told, wishes=wishes, ends=ends), True)
        self.assertTrue(judge(machine, within, goal, told, wishes, ends))
        self.assertTrue(type(told) is tuple and helper.is_plain(told))
        self.assertEqual(ranked(told), yes)
        self.assertEqual(evidence(machine, within, goal, wishes=wishes, ends=ends), told)
        return told

    def test_an_ordinary_one(self):
        ranks, rings, shuts = self.check(MACHINE, WHOLE, (), WISHES, True, (2, 3, 4, 5))
        self.assertEqual([shuts[one] is None for one in WHOLE], [False, False, True, True, True, True, False])
        self.check(MACHINE, WHOLE, (1,), WISHES, True, (0, 1, 2, 3, 4, 5))
        self.assertEqual(self.check(MACHINE, WHOLE, (1,), WISHES, False, (0, 1, 2)), ((1, 0, 1, None, None, None, None), (), ()))
        self.assertEqual(self.check(MACHINE, (), (), WISHES, True, ()), ((None,) * 7, (), (None,) * 7))
        self.assertEqual(self.check(MACHINE, (), (), WISHES, False, ()), ((None,) * 7, (), ()))

    def test_wishes_and_ends_left_out(self):
        told = evidence(MACHINE, WHOLE, ())
        self.assertEqual(told, evidence(MACHINE, WHOLE, (), wishes=(), ends=True))
        self.assertEqual(ranked(told), (0, 1, 2, 3, 4, 5))
        self.assertIs(right_evidence(MACHINE, WHOLE, (), told), True)
        self.assertIs(right_evidence(MACHINE, WHOLE, (), told, wishes=WISHES), False)
        self.assertIs(right_evidence(MACHINE, WHOLE, (), told, ends=False), False)
        told = evidence(MACHINE, WHOLE, (), wishes=WISHES)
        self.assertIs(right_evidence(MACHINE, WHOLE, (), told, wishes=WISHES), True)
        self.assertIs(right_evidence(MACHINE, WHOLE, (), told), False)
        told = evidence(MACHINE, WHOLE, (1,), ends=False)
        self.assertIs(right_evidence(MACHINE, WHOLE, (1,), told, ends=False), True)

    def test_40_standings(self):
        ring = (tuple(((one + 1) % 40,) for one in ALL), tuple(("a",) if one == 9 else () for one in ALL))
        self.check(ring, ALL, (), (("", "a"),), True, ALL)
        self.check(ring, ALL, (), (("a", "zz"),), True, ())
        self.check(ring, ALL, (), (("", "zz"),), True, ())
        self.check(ring, ALL[1:], (), (), True, ())
        self.check(ring, ALL[1:], (0,), (), False, ALL)
        row = (tuple((one + 1,) for one in range(39)) + ((),), ((),) * 40)
        self.check(row, ALL, (39,), (), True, ALL)
        self.check(row, ALL, (), (), True, ())
        self.check(((ALL,) * 40, ((),) * 40), ALL, (), (("", "zz"),), True, ())
        self.check(((ALL,) * 40, ring[1]), ALL, (), (("", "a"), ("a", "zz")), True, ())
        self.check(((ALL,) * 40, ring[1]), ALL, (), (("zz", "a"), ("a", "zz")), True, ALL)

    def test_parted_anew_and_again(self):
        machine = (((1,), (2,), (3,), (4,), (0, 1, 2, 3)), (("a",), ("b",), ("c",), ("dd",), ()))
        wishes = (("a", "zz"), ("b", "zz"), ("c", "zz"), ("dd", "zz"))
        longest = set()
        for order in itertools.permutations(wishes):
            ranks, rings, shuts = self.check(machine, (0, 1, 2, 3, 4), (), order, True, ())
            longest.add(max(len(row) for row in shuts))
        self.assertEqual(max(longest), 5)

    def test_all_machines_of_three_standings(self):
        sets = [row for many in range(4) for row in itertools.combinations(range(3), many)]
        wishes = (("a", "b"), ("b", "zz"))
        for number, steps in enumerate(itertools.product(sets, repeat=3)):
            machine = (steps, (("a",), ("b",), ()))
            for within in sets:
                goal = sets[number % 8]
                until = helper.until_of(machine, within, goal)
                self.check(machine, within, goal, wishes, False, until)
                ever = helper.ever_of(machine, within, wishes)
                self.check(machine, within, goal, wishes, True, tuple(sorted(set(until) | set(ever))))

    def test_small_machines_by_chance(self):
        for chance in helper.chances(300):
            many = chance.randint(1, 6)
            machine = helper.some_machine(chance, many)
            within, goal = helper.some_set(chance, many), helper.some_set(chance, many)
            wishes = helper.some_wishes(chance, chance.randint(0, 4))
            until = helper.until_of(machine, within, goal)
            self.check(machine, within, goal, wishes, False, until)
            ever = helper.ever_of(machine, within, wishes)
            self.check(machine, within, goal, wishes, True, tuple(sorted(set(until) | set(ever))))

    def test_great_machines_by_chance(self):
        for chance in helper.chances(60):
            many = chance.randint(30, 40)
            machine = helper.some_machine(chance, many)
            within = helper.some_set(chance, many)
            wishes = helper.some_wishes(chance, chance.randint(0, 4))
            self.check(machine, within, (), wishes, True, helper.ever_by_choice(machine, within, wishes))


class Others(Cases):
    """Evidence that somebody else wrote."""

    def test_what_is_told_here(self):
        self.right(*TOLD)

    def test_other_ranks_that_fall_likewise(self):
        ranks, rings, shuts = TOLD
        for rank in (1, 2, 77, 10 ** 999):
            self.right(put(ranks, 2, rank), rings, shuts)
        self.within, self.goal, self.ends = WHOLE, (0,), False
        for one, other in ((1, 2), (5, 9), (1, 10 ** 500)):
            self.right((0, one, other, None, None, None, None), (), ())
        for one, other in ((1, 1), (2, 1), (9, 5)):
            self.wrong((0, one, other, None, None, None, None), (), ())

    def test_other_rings(self):
        ranks, rings, shuts = TOLD
        for other in (((4, 3), (5,)), ((5,), (3, 4)), ((3, 4, 3, 4), (5,)), ((3, 4), (5,) * 400), ((5,), (5,), (4, 3), (3, 4))):
            self.right(ranks, other, shuts)
        # Whoever is on no ring any more has no rank 0, but may have another one.
        self.right((None, None, 3, 2, 1, 0, None), ((5,),), shuts)
        self.wrong(ranks, ((5,),), shuts)
        self.wrong(ranks, (), shuts)

    def test_other_rows_of_shuts(self):
        ranks, rings, shuts = TOLD
        for row in (((7, 0),), ((10 ** 999, 0),), ((0, 0), (0, 0)), ((5, 0), (3, -1))):
            self.right(ranks, rings, put(put(shuts, 0, row), 1, row))
        self.right(ranks, rings, put(shuts, 0, ((0, 0), (1, -1))))
        for row in (((0, -1),), ((9, -1),), ((9, 0),), ((9, 0), (3, 0)), ((1, -1), (0, -1))):
            self.right(ranks, rings, put(shuts, 6, row))


class Clauses(Cases):
    """Each clause broken by itself."""

    def test_a_rank_0_outside_of_goal_and_rings(self):
        ranks, rings, shuts = TOLD
        self.wrong(put(ranks, 2, 0), rings, shuts)
        self.ends = False
        self.wrong((None, None, None, None, None, None, 0), (), ())
        self.wrong((0, 1, 1, None, None, None, None), (), ())

    def test_another_rank_in_goal_or_on_rings(self):
        ranks, rings, shuts = TOLD
        self.wrong(put(ranks, 3, 1), rings, shuts)
        self.wrong(put(ranks, 5, 7), rings, shuts)
        self.goal = (0,)
        self.right((0, 1, 1, 0, 0, 0, None), rings, (None,) * 6 + (((0, -1),),))
        self.wrong((1, 2, 1, 0, 0, 0, None), rings, (None,) * 6 + (((0, -1),),))
        self.wrong((None, None, 1, 0, 0, 0, None), rings, shuts)
        self.wrong((None, 1, 1, 0, 0, 0, None), rings, put(shuts, 1, None))

    def test_a_rank_without_a_step_to_a_lesser_one(self):
        ranks, rings, shuts = TOLD
        self.wrong(put(ranks, 6, 1), rings, put(shuts, 6, None))
        self.wrong((2, 1, 1, 0, 0, 0, None), rings, (None, None) + shuts[2:])
        self.wrong((1, 1, 1, 0, 0, 0, None), rings, (None, None) + shuts[2:])

    def test_a_rank_outside_of_within(self):
        self.within = (0, 1, 3, 4, 5, 6)
        ranks, rings, shuts = TOLD
        self.wrong(ranks, rings, shuts)
        self.right(put(ranks, 2, None), rings, shuts)
        # 2 is not of within, so its step to one with a rank is no matter; and it has no row.
        self.wrong(put(ranks, 2, None), rings, put(shuts, 2, ((1, -1),)))

    def test_none_where_a_step_leads_to_a_rank(self):
        ranks, rings, shuts = TOLD
        self.wrong(put(ranks, 2, None), rings, put(shuts, 2, ((9, -1),)))
        self.ends, self.goal = False, (5,)
        self.right((None, None, 3, 2, 1, 0, None), (), ())
        self.wrong((None, None, None, 2, 1, 0, None), (), ())
        self.wrong((None,) * 5 + (0, None), (), ())

    def test_none_in_goal(self):
        self.ends, self.goal = False, (6,)
        self.right((None, None, 4, 3, 2, 1, 0), (), ())
        self.wrong((None,) * 7, (), ())

    def test_too_few_and_too_many_ranks(self):
        ranks, rings, shuts = TOLD
        self.wrong(ranks[:6], rings, shuts)
        self.wrong(ranks + (None,), rings, shuts)
        self.wrong((), rings, shuts)
        for rank in (-1, True, False, "0", (), (0,)):
            self.wrong(put(ranks, 2, rank), rings, shuts)
        for rank in (True, False, -1):
            self.wrong(put(ranks, 3, rank), rings, shuts)
            self.wrong(put(ranks, 0, rank), rings, shuts)

    def test_rings_that_are_none(self):
        ranks, rings, shuts = TOLD
        for ring in ((), (5,) * 401, (5, 6), (3,), (4, 3, 5), (3, 4, 3), (2,), (7,), (-1,), (True,), [5], 5, None):
            self.wrong(ranks, rings + (ring,), shuts)
        self.right(ranks, rings + ((5,) * 400,), shuts)
        for other in (None, [], [(3, 4), (5,)], {}, 0, "", (((3, 4), (5,)),)):
            self.wrong(ranks, other, shuts)

    def test_a_ring_that_is_not_fair(self):
        ranks, rings, shuts = TOLD
        yes = (0, 0, 1, 0, 0, 0, None)
        self.wrong(yes, rings + ((0, 1),), (None,) * 6 + shuts[6:])
        self.wishes = ()
        self.right(yes, rings + ((0, 1),), (None,) * 6 + shuts[6:])
        self.wishes = (("a", "zz"),)
        self.wrong(yes, rings + ((0, 1),), (None,) * 6 + shuts[6:])

    def test_a_ring_that_is_not_of_within(self):
        self.within = (0, 1, 2, 3, 5, 6)
        ranks, rings, shuts = TOLD
        self.wrong(ranks, rings, shuts)
        self.wrong((None, None, None, 0, 0, 0, None), rings, put(shuts, 2, ((3, -1),)))
        self.right((None,) * 5 + (0, None), ((5,),), (((0, 0),), ((0, 0),), ((5, -1),), ((0, -1),), None, None, ((0, -1),)))

    def test_rings_or_shuts_where_ends_is_false(self):
        self.ends = False
        none = (None,) * 7
        self.right(none, (), ())
        self.wrong(none, (), none)
        self.wrong(none, (), TOLD[2])
        self.wrong(none, ((),), ())
        self.wrong(none, ((5,),), ())
        self.wrong(put(none, 5, 0), ((5,),), ())
        self.wrong(*TOLD)
        for other in ([], None, {}, "", 0, False):
            self.wrong(none, other, ())
            self.wrong(none, (), other)
        self.ends = True
        self.within = ()
        self.right(none, (), none)
        self.wrong(none, (), ())

    def test_rows_of_shuts_missing_and_too_many(self):
        ranks, rings, shuts = TOLD
        for at in (0, 1, 6):
            self.wrong(ranks, rings, put(shuts, at, None))
        for at in (2, 3, 4, 5):
            self.wrong(ranks, rings, put(shuts, at, ((9, -1),)))
        self.wrong(ranks, rings, shuts[:6])
        self.wrong(ranks, rings, shuts + (None,))
        self.wrong(ranks, rings, ())

    def test_rows_of_shuts_too_long_and_empty(self):
        ranks, rings, shuts = TOLD
        self.wrong(ranks, rings, put(shuts, 6, ()))
        self.right(ranks, rings, put(shuts, 6, ((0, -1), (0, -1))))
        self.wrong(ranks, rings, put(shuts, 6, ((0, -1), (0, -1), (0, -1))))
        self.wrong(ranks, rings, put(shuts, 0, ()))
        self.wrong(ranks, rings, put(shuts, 0, ((0, 0),) * 3))
        self.wishes, self.within = (), (0, 5, 6)
        told = ((None,) * 5 + (0, None), ((5,),), (((0, -1),), None, None, None, None, None, ((0, -1),)))
        self.right(*told)
        self.wrong(*told[:2], put(told[2], 0, ((0, -1), (0, -1))))

    def test_wishes_beyond_the_last_and_below(self):
        ranks, rings, shuts = TOLD
        for wish in (1, 4, -2, 10 ** 999, True, False, None, "", "c"):
            self.wrong(ranks, rings, put(shuts, 6, ((0, wish),)))
            self.wrong(ranks, rings, put(shuts, 6, ((0, -1), (0, wish))))
            self.wrong(ranks, rings, put(put(shuts, 0, ((0, wish),)), 1, ((0, wish),)))
        for number in (-1, True, False, None, "0"):
            self.wrong(ranks, rings, put(shuts, 6, ((number, -1),)))
            self.wrong(ranks, rings, put(shuts, 6, ((0, -1), (number, -1))))
        for pair in ((), (0,), (0, -1, 0), [0, -1], 0, None, "ab"):
            self.wrong(ranks, rings, put(shuts, 6, (pair,)))

    def test_numbers_that_do_not_fall(self):
        ranks, rings, shuts = TOLD
        self.wrong(ranks, rings, put(shuts, 0, ((1, 0),)))
        self.wrong(ranks, rings, put(shuts, 1, ((1, 0),)))
        # In a row no wish fails, so numbers have to fall.
        self.machine = (((1,), (2,), ()), ((), (), ()))
        self.within, self.wishes = (0, 1, 2), ()
        none = (None, None, None)
        self.right(none, (), (((2, -1),), ((1, -1),), ((0, -1),)))
        self.right(none, (), (((9, -1),), ((7, -1),), ((4, -1),)))
        self.wrong(none, (), (((1, -1),), ((1, -1),), ((0, -1),)))
        self.wrong(none, (), (((2, -1),), ((0, -1),), ((0, -1),)))
        self.wrong(none, (), (((1, -1),), ((2, -1),), ((0, -1),)))
        self.wrong(none, (), (((0, -1),), ((1, -1),), ((2, -1),)))

    def test_unlike_wishes_of_one_number(self):
        self.wishes = (("", "c"), ("a", "c"))
        ranks, rings, shuts = TOLD
        self.right(*TOLD)
        self.right(ranks, rings, put(put(shuts, 0, ((0, 1),)), 1, ((0, 1),)))
        self.wrong(ranks, rings, put(shuts, 0, ((0, 1),)))
        self.wrong(ranks, rings, put(put(shuts, 0, ((0, -1),)), 1, ((0, -1),)))
        self.wrong(ranks, rings, put(shuts, 1, ((0, -1),)))
        self.wrong(ranks, rings, put(shuts, 1, ((1, -1),)))

    def test_a_wish_whose_then_is_borne(self):
        # 0 bears a, and 1 leads back to it.
        self.wishes = (("", "c"), ("", "a"))
        self.within = (0, 1)
        row = (None,) * 5
        self.right((None,) * 7, (), (((0, 0),), ((0, 0),)) + row)
        self.wrong((None,) * 7, (), (((0, 1),), ((0, 1),)) + row)
        # The one that bears it is the first of a step only, or the last only.
        self.machine = (((1,), ()), (("a",), ()))
        self.right((None, None), (), (((0, 0),), ((0, 0),)))
        self.wrong((None, None), (), (((0, 1),), ((0, 1),)))
        self.machine = (((1,), ()), ((), ("a",)))
        self.wrong((None, None), (), (((0, 1),), ((0, 1),)))
        self.machine = (((1,), ()), ((), ()))
        self.right((None, None), (), (((0, 1),), ((0, 1),)))

    def test_a_when_that_is_not_borne_needs_a_next_pair_of_both(self):
        self.machine, self.within, self.wishes = (((1,), (2,), (0,)), ((), (), ("b",))), (0, 1, 2), (("b", "zz"),)
        none = (None, None, None)
        # From 0 to 1 neither bears b; from 1 to 2 and from 2 to 0 one of both does.
        self.right(none, (), (((0, 0), (1, -1)), ((0, 0), (0, -1)), ((0, 0),)))
        self.right(none, (), (((0, 0), (1, -1)), ((0, 0), (0, -1)), ((0, 0), (5, -1))))
        self.wrong(none, (), (((0, 0),), ((0, 0), (0, -1)), ((0, 0),)))
        self.wrong(none, (), (((0, 0), (1, -1)), ((0, 0),), ((0, 0),)))
        self.wrong(none, (), (((0, 0),), ((0, 0),), ((0, 0),)))
        self.wrong(none, (), (((0, 0), (1, -1)), ((0, 0), (1, -1)), ((0, 0),)))
        self.wrong(none, (), (((0, 0), (1, -1)), ((0, 0), (2, -1)), ((0, 0),)))
        self.wrong(none, (), (((0, 0), (1, 0)), ((0, 0), (1, 0)), ((0, 0),)))
        # Where the text without signs is wished by, no next pair is needed.
        self.wishes = (("", "zz"),)
        self.right(none, (), (((0, 0),), ((0, 0),), ((0, 0),)))
        self.wishes = (("b", "zz"), ("", "zz"))
        self.right(none, (), (((0, 0), (1, 1)), ((0, 0), (1, 1)), ((0, 0),)))
        self.right(none, (), (((0, 1),), ((0, 1),), ((0, 1),)))

    def test_a_step_to_itself(self):
        self.machine, self.within, self.wishes = (((0,),), (("a",),)), (0,), (("a", "b"), ("c", "zz"))
        self.right((None,), (), (((0, 0),),))
        self.wrong((None,), (), (((0, -1),),))
        self.wrong((None,), (), (((0, 1),),))
        self.wrong((None,), (), (((0, 1), (0, -1)),))
        self.right((None,), (), (((0, 1), (0, 0)),))

    def test_no_triples(self):
        for thing in ((), TOLD[:2], TOLD + ((),), list(TOLD), None, 0, "abc", {}, TOLD[0]):
            self.assertFalse(self.both(thing))


class Anything(Cases):
    def test_at_any_depth(self):
        right = 0
        for thing in helper.changes(TOLD):
            right += self.both(thing)
        self.assertGreater(right, 3)

    def test_at_any_depth_where_ends_is_false(self):
        self.ends, self.goal = False, (1,)
        for thing in helper.changes(((1, 0, 1, None, None, None, None), (), ())):
            self.both(thing)

    def test_at_any_depth_where_rows_are_long(self):
        self.machine, self.within, self.wishes = (((1,), (2,), (0,)), ((), (), ("b",))), (0, 1, 2), (("b", "zz"),)
        for thing in helper.changes(((None,) * 3, (), (((0, 0), (1, -1)), ((0, 0), (0, -1)), ((0, 0),)))):
            self.both(thing)

    def test_whatever_is_let_by_tells_what_is_so(self):
        rows = [None] + [row for many in (1, 2) for row in itertools.product(itertools.product((0, 1), (-1, 0)), repeat=many)]
        rings = ((), ((0,),), ((1,),), ((0, 1),), ((0,), (1,)))
        marks = ((("a",), ()), (("b",), ("a",)))
        let_by = 0
        for steps in itertools.product(((), (0,), (1,), (0, 1)), repeat=2):
            for mark, wishes in itertools.product(marks, ((("a", "b"),), (("", "b"),))):
                self.machine, self.within, self.wishes = (steps, mark), (0, 1), wishes
                yes = helper.ever_of(self.machine, self.within, wishes)
                for ranks, ring in itertools.product(itertools.product((None, 0, 1), repeat=2), rings):
                    no = [one for one in (0, 1) if ranks[one] is None]
                    shuts = itertools.product(*[rows[1:] if one in no else (None,) for one in (0, 1)])
                    for row in shuts:
                        if right_evidence(self.machine, (0, 1), (), (ranks, ring, row), wishes=wishes):
                            let_by += 1
                            self.assertTrue(judge(self.machine, (0, 1), (), (ranks, ring, row), wishes, True))
                            self.assertEqual(ranked((ranks,)), yes)
        self.assertGreater(let_by, 100)

    def test_evidence_of_something_else(self):
        for chance in helper.chances(200):
            many = chance.randint(1, 5)
            machine, other = helper.some_machine(chance, many), helper.some_machine(chance, many)
            within, goal = helper.some_set(chance, many), helper.some_set(chance, many)
            wishes = helper.some_wishes(chance, chance.randint(0, 3))
            told = evidence(other, within, goal, wishes=wishes)
            so = right_evidence(machine, within, goal, told, wishes=wishes)
            self.assertIs(so, judge(machine, within, goal, told, wishes, True))
            told = evidence(machine, within, goal, wishes=helper.some_wishes(chance, len(wishes)))
            so = right_evidence(machine, within, goal, told, wishes=wishes)
            self.assertIs(so, judge(machine, within, goal, told, wishes, True))


if __name__ == "__main__":
    unittest.main()
