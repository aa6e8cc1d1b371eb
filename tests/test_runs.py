"""Points 6, 11, 15 and 16: endless runs, fair ones, and forms on them."""

import itertools
import unittest

from fairtrees import runs
from fairtrees.errors import NoRun
from fairtrees.runs import Run
from tests import helper

# 0 and 1 go to one another, 2 stands still by a step, 3 has no step, 4 leads to all.
MACHINE = (((1,), (0, 2), (2,), (), (0, 1, 2, 3, 4)), (("a",), ("b",), ("a", "c"), (), ("c",)))
RIGHT = (
    ((), (2,)), ((), (4,)), ((), (0, 1)), ((), (1, 0)), ((0,), (1, 0)), ((4, 4, 0, 1), (2,)), ((1, 2, 2), (2, 2)),
    ((0, 1, 0, 1), (0, 1, 0, 1)), ((4,), (4, 4)), ((4,), (1, 0)),
)
FORMS = ("next", "once", "ever", "until", "unless")


def holds(form, told):
    """Say whether a form holds, by what it says of each place of a run that is told far enough."""
    word, *sets = form
    if word == "next":
        return told[1] in sets[0]
    if word == "once":
        return any(one in sets[0] for one in told)
    ever = all(one in sets[0] for one in told)
    if word == "ever":
        return ever
    until = any(told[place] in sets[1] and all(one in sets[0] for one in told[:place]) for place in range(len(told)))
    return until or word == "unless" and ever


def least(path, ring):
    """Tell the least form by trying all shorter ones, ring first."""
    told = helper.unrolled((path, ring), len(path) + 4 * len(ring))
    for many in range(1, len(ring) + 1):
        for start in range(len(path) + 1):
            if helper.unrolled((told[:start], told[start:start + many]), len(told)) == told:
                return tuple(told[:start]), tuple(told[start:start + many])


class Right(unittest.TestCase):
    def right(self, thing, machine=MACHINE):
        self.assertTrue(helper.is_run(machine, thing), thing)
        self.assertIs(runs.right_run(machine, thing), True, thing)

    def wrong(self, thing, machine=MACHINE):
        self.assertFalse(helper.is_run(machine, thing), thing)
        self.assertIs(runs.right_run(machine, thing), False, thing)

    def test_right_runs_with_and_without_a_path(self):
        for run in RIGHT:
            self.right(run)

    def test_400_and_401_numbers_together(self):
        for path, ring in ((0, 400), (399, 1), (200, 200)):
            self.right(((2,) * path, (2,) * ring))
        for path, ring in ((0, 401), (400, 1), (1, 400), (200, 201)):
            self.wrong(((2,) * path, (2,) * ring))

    def test_an_empty_ring(self):
        self.wrong(((), ()))
        self.wrong(((2,), ()))
        self.wrong(((0, 1, 2), ()))

    def test_a_missing_step(self):
        self.wrong(((0, 2, 2), (2,)))
        self.wrong(((0, 1, 0), (2,)))
        self.wrong(((0,), (0, 1)))
        self.wrong(((4,), (0, 1, 2)))
        self.wrong(((), (0, 1, 2)))
        self.wrong(((), (4, 0, 1)))
        self.wrong(((), (0,)))
        self.wrong(((), (3,)))
        self.wrong(((4,), (3,)))
        self.wrong(((2,), (0, 1)))

    def test_standings_that_the_machine_does_not_have(self):
        for standing in (5, 39, 40, -1, -3, 10 ** 999, -10 ** 999):
            self.wrong(((), (standing,)))
            self.wrong(((standing,), (2,)))
            self.wrong(((4, standing), (2,)))
        # From the end, -1 is the last standing, which leads to itself.
        self.wrong(((), (-1,)), (((0,),), ((),)))
        self.right(((), (0,)), (((0,),), ((),)))

    def test_true_and_false_are_no_numbers(self):
        both = (((0, 1), (0, 1)), ((), ()))
        self.right(((0, 1), (1, 0)), both)
        for thing in (((False,), (0,)), ((), (True,)), ((0, True), (1,)), ((0,), (1, False))):
            self.wrong(thing, both)

    def test_lists_are_no_tuples(self):
        for thing in ([(), (2,)], ([], (2,)), ((), [2]), ([2], [2]), [[], [2]]):
            self.wrong(thing)

    def test_anything_at_any_depth(self):
        for run in (RIGHT[0], RIGHT[2], RIGHT[5]):
            for thing in helper.changes(run):
                self.assertIs(runs.right_run(MACHINE, thing), helper.is_run(MACHINE, thing), repr(thing)[:60])

    def test_all_pairs_of_few_numbers(self):
        rows = [row for many in range(4) for row in itertools.product(range(-1, 6), repeat=many)]
        for path in rows[:60]:
            for ring in rows:
                self.assertIs(runs.right_run(MACHINE, (path, ring)), helper.is_run(MACHINE, (path, ring)))

    def test_forty_standings(self):
        ring = (tuple((one + 1,) for one in range(39)) + ((0,),), ((),) * 40)
        self.right(((), tuple(range(40))), ring)
        self.right((tuple(range(40)), tuple(range(40)) * 9), ring)
        self.wrong(((), tuple(range(39))), ring)


class Fair(unittest.TestCase):
    def fair(self, run, wishes):
        self.assertTrue(helper.is_run(MACHINE, run))
        self.assertIs(runs.is_fair(MACHINE, run, wishes=wishes), True, (run, wishes))

    def unfair(self, run, wishes):
        self.assertTrue(helper.is_run(MACHINE, run))
        self.assertIs(runs.is_fair(MACHINE, run, wishes=wishes), False, (run, wishes))

    def test_wishes_left_out_and_none(self):
        for run in RIGHT:
            self.assertIs(runs.is_fair(MACHINE, run), True)
            self.fair(run, ())

    def test_when_the_text_without_signs(self):
        self.fair(((), (0, 1)), (("", "a"),))
        self.fair(((), (0, 1)), (("", "b"),))
        self.unfair(((), (0, 1)), (("", "c"),))

    def test_when_and_then(self):
        self.fair(((), (0, 1)), (("a", "b"),))
        self.fair(((), (2,)), (("b", "a"),))
        self.fair(((), (2,)), (("b", "zz"),))
        self.unfair(((), (2,)), (("a", "b"),))
        self.fair(((), (2,)), (("a", "c"),))

    def test_when_borne_only_on_the_path(self):
        self.fair(((0, 1), (2,)), (("b", "dd"),))
        self.fair(((4,), (0, 1)), (("c", "dd"),))

    def test_then_borne_only_on_the_path(self):
        self.unfair(((0, 1), (2,)), (("a", "b"),))
        self.unfair(((4, 4), (0, 1)), (("a", "c"),))
        self.unfair(((0, 1), (2,)), (("", "b"),))

    def test_four_wishes_each_of_which_counts(self):
        met = (("", "a"), ("a", "b"), ("b", "a"), ("c", "zz"))
        self.fair(((), (0, 1)), met)
        for at in range(4):
            self.unfair(((), (0, 1)), met[:at] + (("a", "c"),) + met[at + 1:])

    def test_names_that_nobody_bears(self):
        for run in RIGHT:
            self.fair(run, (("zz", "zz"),))
            self.fair(run, (("zz", "yy"),))
            self.unfair(run, (("", "zz"),))

    def test_by_chance(self):
        for chance in helper.chances(300):
            run = chance.choice(RIGHT)
            wishes = helper.some_wishes(chance, chance.randint(0, 4))
            self.assertIs(runs.is_fair(MACHINE, run, wishes=wishes), helper.met(MACHINE, run[1], wishes))


class Forms(unittest.TestCase):
    def test_next(self):
        for run, standing in ((((), (3,)), 3), (((), (3, 4)), 4), (((3,), (4, 5)), 4), (((3, 4), (5,)), 4), (((3,), (3,)), 3)):
            self.assertIs(runs.holds_on(("next", (standing,)), run), True)
            self.assertIs(runs.holds_on(("next", (standing, 39)), run), True)
            self.assertIs(runs.holds_on(("next", ()), run), False)
            self.assertIs(runs.holds_on(("next", tuple(one for one in range(40) if one != standing)), run), False)

    def test_once_and_ever(self):
        run = ((0, 39), (5, 7))
        for standing in (0, 39, 5, 7):
            self.assertIs(runs.holds_on(("once", (standing,)), run), True)
            self.assertIs(runs.holds_on(("ever", tuple(one for one in range(40) if one != standing)), run), False)
        self.assertIs(runs.holds_on(("once", (1, 2, 38)), run), False)
        self.assertIs(runs.holds_on(("ever", (0, 5, 7, 39)), run), True)
        self.assertIs(runs.holds_on(("once", ()), run), False)
        self.assertIs(runs.holds_on(("ever", ()), run), False)

    def test_until_with_the_goal_at_place_0_and_in_the_ring(self):
        for word in ("until", "unless"):
            self.assertIs(runs.holds_on((word, (), (0,)), ((0, 1), (2, 3))), True)
            self.assertIs(runs.holds_on((word, (), (2,)), ((), (2, 3))), True)
            self.assertIs(runs.holds_on((word, (0, 1, 2), (3,)), ((0, 1), (2, 3))), True)
            self.assertIs(runs.holds_on((word, (0, 2), (3,)), ((0, 1), (2, 3))), False)
            self.assertIs(runs.holds_on((word, (1, 2), (3,)), ((0, 1), (2, 3))), False)
            self.assertIs(runs.holds_on((word, (0,), (1,)), ((0, 1), (2, 3))), True)
            self.assertIs(runs.holds_on((word, (), ()), ((0, 1), (2, 3))), False)

    def test_unless_where_the_goal_never_comes(self):
        for run in (((0, 1), (2, 3)), ((), (0, 1, 2, 3)), ((3, 2, 1), (0,))):
            for goal in ((), (4,), (4, 39)):
                self.assertIs(runs.holds_on(("unless", (0, 1, 2, 3), goal), run), True)
                self.assertIs(runs.holds_on(("until", (0, 1, 2, 3), goal), run), False)
                self.assertIs(runs.holds_on(("unless", (1, 2, 3), goal), run), False)

    def test_rings_told_over_and_turned(self):
        alike = [((0,), (1, 2)), ((0,), (1, 2, 1, 2)), ((0, 1), (2, 1)), ((0, 1, 2), (1, 2)), ((0, 1, 2, 1), (2, 1, 2, 1))]
        sets = [row for many in range(4) for row in itertools.combinations(range(3), many)]
        for word in FORMS:
            for both in itertools.product(sets, repeat=2 if word in ("until", "unless") else 1):
                told = {runs.holds_on((word, *both), run) for run in alike}
                self.assertEqual(told, {holds((word, *both), helper.unrolled(alike[0], 20))})

    def test_by_chance(self):
        seen = set()
        for chance in helper.chances(3000):
            numbers = chance.choice([range(3), range(36, 40), range(40)])
            path = tuple(chance.choice(numbers) for _ in range(chance.randint(0, 4)))
            ring = tuple(chance.choice(numbers) for _ in range(chance.randint(1, 4)))
            sets = [tuple(sorted(chance.sample(numbers, chance.randint(0, len(numbers))))) for _ in range(2)]
            word = chance.choice(FORMS)
            form = (word, *sets) if word in ("until", "unless") else (word, sets[0])
            told = runs.holds_on(form, (path, ring))
            self.assertIs(told, holds(form, helper.unrolled((path, ring), 20)), (form, path, ring))
            seen.add((word, told))
        self.assertEqual(len(seen), 10)

    def test_runs_of_400_numbers(self):
        run = (tuple([0] * 399), (1,))
        self.assertIs(runs.holds_on(("until", (0,), (1,)), run), True)
        self.assertIs(runs.holds_on(("ever", (0,)), run), False)
        self.assertIs(runs.holds_on(("once", (1,)), run), True)


class Least(unittest.TestCase):
    def told(self, path, ring):
        run = Run(path, ring)
        self.assertIs(type(run.path), tuple)
        self.assertIs(type(run.ring), tuple)
        self.assertIs(type(run.pair()), tuple)
        self.assertEqual(run.pair(), (run.path, run.ring))
        self.assertTrue(helper.is_plain(run.pair()))
        self.assertEqual(len(run), len(run.path) + len(run.ring))
        return run.pair()

    def test_pairs_that_are_already_least(self):
        for pair in (((), (0,)), ((), (0, 1)), ((0,), (1,)), ((0, 3), (1, 2)), ((1,), (1, 2)), ((), (0, 0, 1)), ((39,), (38,))):
            self.assertEqual(self.told(*pair), pair)

    def test_rings_told_several_times_over(self):
        self.assertEqual(self.told((), (1, 1, 1)), ((), (1,)))
        self.assertEqual(self.told((0,), (1, 2, 1, 2, 1, 2)), ((0,), (1, 2)))
        self.assertEqual(self.told((), (0, 0, 1, 0, 0, 1)), ((), (0, 0, 1)))
        self.assertEqual(self.told((), (0, 1, 0, 1, 0)), ((), (0, 1, 0, 1, 0)))
        self.assertEqual(self.told((), (0, 1, 1) * 100), ((), (0, 1, 1)))

    def test_paths_that_end_as_the_ring_does(self):
        self.assertEqual(self.told((0, 2), (1, 2)), ((0,), (2, 1)))
        self.assertEqual(self.told((1, 2), (1, 2)), ((), (1, 2)))
        self.assertEqual(self.told((2,), (1, 2)), ((), (2, 1)))
        self.assertEqual(self.told((0, 1, 2, 1, 2), (1, 2, 1, 2)), ((0,), (1, 2)))
        self.assertEqual(self.told((0, 1, 1), (1,)), ((0,), (1,)))
        self.assertEqual(self.told((1, 1), (1, 1)), ((), (1,)))

    def test_400_numbers(self):
        self.assertEqual(self.told(tuple(range(40)) * 5, tuple(range(40)) * 5), ((), tuple(range(40))))
        self.assertEqual(self.told((0,) + (1,) * 398, (1,)), ((0,), (1,)))
        self.assertEqual(self.told((), (0,) * 399 + (1,)), ((), (0,) * 399 + (1,)))
        self.assertEqual(self.told((0,) * 399, (1,)), ((0,) * 399, (1,)))
        self.assertEqual(len(Run((0,) * 399, (1,))), 400)

    def test_all_small_pairs(self):
        rows = [row for many in range(5) for row in itertools.product(range(2), repeat=many)]
        for path in rows:
            for ring in rows[1:]:
                self.assertEqual(self.told(path, ring), least(path, ring))

    def test_by_chance(self):
        for chance in helper.chances(300):
            ring = tuple(chance.randrange(3) for _ in range(chance.randint(1, 5))) * chance.randint(1, 4)
            path = tuple(chance.randrange(3) for _ in range(chance.randint(0, 3)))
            path += (ring * 3)[chance.randint(len(ring), 3 * len(ring)):]
            self.assertEqual(self.told(path, ring), least(path, ring))

    def test_nothing_else_is_set(self):
        self.assertEqual(vars(Run((0,), (1, 1))), {"path": (0,), "ring": (1,)})


class Runs(unittest.TestCase):
    def test_at(self):
        run = Run((5, 6), (7, 8, 9))
        self.assertEqual([run.at(place) for place in range(9)], [5, 6, 7, 8, 9, 7, 8, 9, 7])
        self.assertEqual([Run((), (7, 8)).at(place) for place in range(5)], [7, 8, 7, 8, 7])
        self.assertEqual(Run((), (3,)).at(0), 3)

    def test_at_very_great_places(self):
        run = Run((5, 6), (7, 8, 9))
        for place in (3 * 10 ** 900, 10 ** 999, 10 ** 18 + 1):
            self.assertEqual(run.at(place + 2), (7, 8, 9)[place % 3])

    def test_at_tells_what_was_handed_in(self):
        for chance in helper.chances(100):
            path = tuple(chance.randrange(2) for _ in range(chance.randint(0, 6)))
            ring = tuple(chance.randrange(2) for _ in range(chance.randint(1, 6)))
            run = Run(path, ring)
            self.assertEqual([run.at(place) for place in range(30)], helper.unrolled((path, ring), 30))

    def test_equal_where_the_standings_are(self):
        rows = [row for many in range(4) for row in itertools.product(range(2), repeat=many)]
        told = [(Run(path, ring), helper.unrolled((path, ring), 20)) for path in rows for ring in rows[1:]]
        for one, first in told:
            for other, last in told:
                self.assertIs(one == other, first == last)
                self.assertIs(one != other, first != last)

    def test_a_run_equals_nothing_else(self):
        run = Run((0,), (1, 2))
        for other in (run.pair(), [(0,), (1, 2)], (0,), "0 (1 2)", str(run), None, 0, 3, True, (), object(), Run, 1j, {}):
            self.assertIs(run == other, False)
            self.assertIs(other == run, False)
            self.assertIs(run != other, True)
            self.assertIs(other != run, True)
        for other in helper.anything():
            self.assertIs(run == other, False)
            self.assertIs(run != other, True)

    def test_len(self):
        self.assertEqual(len(Run((), (0,))), 1)
        self.assertEqual(len(Run((0, 3), (1, 2))), 4)
        self.assertEqual(len(Run((0, 1, 2), (1, 2, 1, 2))), 3)

    def test_str(self):
        self.assertEqual(str(Run((0, 3), (1, 2))), "0 3 (1 2)")
        self.assertEqual(str(Run((), (1, 2))), "(1 2)")
        self.assertEqual(str(Run((), (39,))), "(39)")
        self.assertEqual(str(Run((12,), (39, 39))), "12 (39)")
        self.assertEqual(str(Run((1, 2), (1, 2))), "(1 2)")

    def test_what_is_told_again_is_the_same(self):
        run = Run((0, 3), (1, 2))
        first = (run.pair(), run.at(5), len(run), str(run))
        self.assertEqual((run.pair(), run.at(5), len(run), str(run)), first)
        self.assertEqual(vars(run), {"path": (0, 3), "ring": (1, 2)})


class Refused(unittest.TestCase):
    def refused(self, path, ring):
        with self.assertRaises(NoRun):
            Run(path, ring)

    def test_an_empty_ring(self):
        self.refused((), ())
        self.refused((0, 1), ())

    def test_lists(self):
        for path, ring in (([], (0,)), ((), [0]), ([0], [0]), ([0], (0,))):
            self.refused(path, ring)

    def test_numbers_below_0_and_above_39(self):
        for number in (-1, 40, 41, -40, 10 ** 999, -10 ** 999):
            self.refused((), (number,))
            self.refused((number,), (0,))
            self.refused((0, number), (0,))
        Run((0, 39), (0, 39))

    def test_true_and_false(self):
        for truth in (True, False):
            self.refused((), (truth,))
            self.refused((truth,), (0,))
            self.refused((0, 1, truth), (0,))

    def test_401_numbers(self):
        for path, ring in ((0, 401), (400, 1), (1, 400), (0, 800), (200, 201)):
            self.refused((1,) * path, (1,) * ring)

    def test_anything_at_any_depth(self):
        machine = (tuple(tuple(range(40)) for _ in range(40)), ((),) * 40)
        pairs = [thing for thing in helper.changes(((0, 3), (1, 2))) if type(thing) is tuple and len(thing) == 2]
        for thing in helper.anything():
            pairs += [((), thing), (thing, ()), (thing, (0,)), (thing, thing)]
        right = 0
        for path, ring in pairs:
            if helper.is_run(machine, (path, ring)):
                right += 1
                Run(path, ring)
            else:
                self.refused(path, ring)
        self.assertGreater(right, 10)
        self.assertGreater(len(pairs), 10 * right)


if __name__ == "__main__":
    unittest.main()
