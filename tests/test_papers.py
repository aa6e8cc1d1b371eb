"""Points 3, 22 and 23: papers of sayings, and their judge."""

import unittest

from fairtrees.evidence import evidence
from fairtrees.papers import paper, right_paper
from fairtrees.telling import tell
from tests import helper
from tests.helper import put
from tests.test_evidence import judge, ranked
from tests.test_telling import ALL, KINDS, MACHINE, meaning_of_row

WISHES = (("", "a"), ("b", "a"))
SAYING = (("mark", "a"), ("some", "ever", 0), ("all", "once", 0), ("some", "next", 0), ("all", "until", 0, 2), ("not", 4))


def look(machine, row, sets, begins):
    """Tell within, goal and ends for a row, as point 22 has them."""
    whole = set(range(len(machine[0])))
    first, last, fair = set(sets[row[2]]), set(sets[row[-1]]), set(begins)
    told = {
        ("some", "once"): (whole, fair & first, False),
        ("some", "ever"): (first, set(), True),
        ("some", "until"): (first, fair & last, False),
        ("some", "unless"): (first, fair & last, True),
        ("all", "once"): (whole - first, set(), True),
        ("all", "ever"): (whole, fair - first, False),
        ("all", "until"): (whole - last, fair - first - last, True),
        ("all", "unless"): (whole - last, fair - first - last, False),
    }[row[:2]]
    return tuple(sorted(told[0])), tuple(sorted(told[1])), told[2]


def judge_paper(machine, saying, thing, wishes):
    """Say whether the thing is a paper, sentence by sentence."""
    whole = tuple(range(len(machine[0])))
    if type(thing) is not tuple or len(thing) != 3:
        return False
    sets, fair, looks = thing
    if type(sets) is not tuple or type(looks) is not tuple or not len(sets) == len(looks) == len(saying):
        return False
    for one in sets:
        if type(one) is not tuple or any(type(number) is not int or number not in whole for number in one):
            return False
        if list(one) != sorted(set(one)):
            return False
    if not judge(machine, whole, (), fair, wishes, True):
        return False
    begins = ranked(fair)

    def on_runs(row, parts):
        if row[0] == "some":
            return tuple(one for one in whole if any(other in begins and other in parts[0] for other in machine[0][one]))
        return tuple(one for one in whole if all(other not in begins or other in parts[0] for other in machine[0][one]))

    for row, told, found in zip(saying, sets, looks):
        if row[0] not in ("some", "all") or row[1] == "next":
            if found is not None or told != meaning_of_row(machine, row, sets, on_runs):
                return False
            continue
        within, goal, ends = look(machine, row, sets, begins)
        if not judge(machine, within, goal, found, wishes, ends):
            return False
        yes = ranked(found)
        if told != (yes if row[0] == "some" else tuple(one for one in whole if one not in yes)):
            return False
    return True


def other_evidence(told):
    """Tell evidence that says the same in other words: ranks and numbers doubled, rings turned and told twice."""
    ranks, rings, shuts = told
    ranks = tuple(rank and 2 * rank + 5 if rank else rank for rank in ranks)
    rings = tuple(2 * (ring[1:] + ring[:1]) for ring in rings[::-1]) + rings
    shuts = tuple(row and tuple((3 * number + 1, wish) for number, wish in row) for row in shuts)
    return ranks, rings, shuts


def in_other_words(told):
    sets, fair, looks = told
    return sets, other_evidence(fair), tuple(one and other_evidence(one) for one in looks)


class Told(unittest.TestCase):
    def check(self, machine, saying, wishes):
        told = paper(machine, saying, wishes=wishes)
        self.assertTrue(type(told) is tuple and helper.is_plain(told))
        self.assertIs(right_paper(machine, saying, told, wishes=wishes), True)
        self.assertTrue(judge_paper(machine, saying, told, wishes))
        self.assertEqual(told[0], tell(machine, saying, wishes=wishes))
        self.assertEqual(paper(machine, saying, wishes=wishes), told)
        other = in_other_words(told)
        self.assertTrue(judge_paper(machine, saying, other, wishes))
        self.assertIs(right_paper(machine, saying, other, wishes=wishes), True)
        return told

    def test_an_ordinary_one(self):
        sets, fair, looks = self.check(MACHINE, SAYING, WISHES)
        self.assertEqual(ranked(fair), (0, 1))
        self.assertEqual([one is None for one in looks], [True, False, False, True, False, True])
        self.assertEqual(looks[1], evidence(MACHINE, (0, 3), (), wishes=WISHES))

    def test_every_kind_of_row(self):
        for wishes in ((), (("", "a"),), (("", "zz"),), WISHES, (("a", "b"), ("b", "c"), ("c", "zz"), ("", "b"))):
            self.check(MACHINE, KINDS, wishes)

    def test_wishes_left_out(self):
        told = paper(MACHINE, SAYING)
        self.assertEqual(told, paper(MACHINE, SAYING, wishes=()))
        self.assertIs(right_paper(MACHINE, SAYING, told), True)
        self.assertIs(right_paper(MACHINE, SAYING, told, wishes=WISHES), False)
        self.assertIs(right_paper(MACHINE, SAYING, paper(MACHINE, SAYING, wishes=WISHES)), False)

    def test_small_machines_by_chance(self):
        for chance in helper.chances(150):
            machine = helper.some_machine(chance, chance.randint(1, 6))
            saying = chance.choice([KINDS, helper.some_saying(chance, chance.randint(1, 20))])
            self.check(machine, saying, helper.some_wishes(chance, chance.randint(0, 4)))

    def test_160_rows_and_40_standings(self):
        for chance in helper.chances(5):
            machine = helper.some_machine(chance, 40)
            saying = KINDS + tuple((word, "until", one, one + 1) for word in ("some", "all") for one in range(70))[:160 - len(KINDS)]
            self.assertLessEqual(len(saying), 160)
            self.check(machine, helper.some_saying(chance, 160), helper.some_wishes(chance, chance.randint(0, 4)))
            self.check(machine, saying, helper.some_wishes(chance, 2))
        ring = (tuple(((one + 1) % 40,) for one in ALL), tuple(("a",) if one % 7 else ("b",) for one in ALL))
        saying = (("mark", "a"),) + tuple(("some", "until", 0, one) for one in range(159))
        self.check(ring, saying, (("", "a"), ("a", "b"), ("b", "a"), ("", "b")))

    def test_no_set_holds_by_evidence_alone(self):
        # The evidence of each row with all is of where it fails.
        sets, fair, looks = paper(MACHINE, (("mark", "c"), ("all", "ever", 0)))
        self.assertEqual(sets[1], (2, 4))
        self.assertEqual(ranked(looks[1]), (0, 1, 3))


class Judge(unittest.TestCase):
    def both(self, thing, saying=SAYING, wishes=WISHES, machine=MACHINE):
        told = right_paper(machine, saying, thing, wishes=wishes)
        self.assertIs(told, judge_paper(machine, saying, thing, wishes), repr(thing)[:300])
        if told:
            self.assertEqual(thing[0], tell(machine, saying, wishes=wishes))
        return told

    def test_one_set_changed(self):
        for wishes in ((), WISHES):
            sets, fair, looks = paper(MACHINE, KINDS, wishes=wishes)
            for row, told in enumerate(sets):
                for standing in range(5):
                    other = tuple(sorted(set(told) ^ {standing}))
                    self.assertFalse(self.both((put(sets, row, other), fair, looks), KINDS, wishes), (row, standing))

    def test_one_evidence_changed(self):
        for wishes in ((), WISHES):
            sets, fair, looks = paper(MACHINE, KINDS, wishes=wishes)
            for row in range(len(KINDS)):
                for other in range(len(KINDS)):
                    self.both((sets, fair, put(looks, row, looks[other])), KINDS, wishes)
                self.both((sets, looks[row], looks), KINDS, wishes)
                self.both((sets, fair, put(looks, row, fair)), KINDS, wishes)

    def test_one_rank_changed(self):
        wrong = 0
        for wishes in ((), WISHES):
            sets, fair, looks = paper(MACHINE, KINDS, wishes=wishes)
            for row, told in enumerate(looks):
                for standing in range(5 if told else 0):
                    for rank in (None, 0, 1, 2, 9, True, False, -1):
                        other = (put(told[0], standing, rank), *told[1:])
                        wrong += not self.both((sets, fair, put(looks, row, other)), KINDS, wishes)
            for standing in range(5):
                for rank in (None, 0, 1, 2, 9):
                    self.both((sets, (put(fair[0], standing, rank), *fair[1:]), looks), KINDS, wishes)
        self.assertGreater(wrong, 500)

    def test_that_of_other_wishes(self):
        told = paper(MACHINE, SAYING, wishes=WISHES)
        for wishes in ((), WISHES[:1], WISHES[1:], (("", "zz"),), WISHES[::-1]):
            self.both(told, wishes=wishes)
            self.both(paper(MACHINE, SAYING, wishes=wishes))
        self.assertFalse(self.both(told, wishes=()))
        self.assertFalse(self.both(told, wishes=(("", "zz"),)))

    def test_that_of_another_saying(self):
        told = paper(MACHINE, SAYING, wishes=WISHES)
        for saying in (SAYING[:5], SAYING + (("yes",),), put(SAYING, 1, ("some", "once", 0)), put(SAYING, 5, ("step", 4)),
                       put(SAYING, 0, ("mark", "b")), put(SAYING, 3, ("all", "next", 0)), (("yes",),)):
            self.assertFalse(self.both(told, saying), saying)
        for chance in helper.chances(60):
            machine = helper.some_machine(chance, chance.randint(1, 4))
            one, other = helper.some_saying(chance, 5), helper.some_saying(chance, 5)
            self.both(paper(machine, one), other, (), machine)

    def test_that_of_another_machine(self):
        told = paper(MACHINE, SAYING, wishes=WISHES)
        for machine in ((put(MACHINE[0], 4, (0,)), MACHINE[1]), (put(MACHINE[0], 0, ()), MACHINE[1]),
                        (MACHINE[0], put(MACHINE[1], 1, ("a",))), (MACHINE[0][:3], MACHINE[1][:3])):
            self.assertFalse(self.both(told, machine=machine))

    def test_none_where_evidence_is_due_and_evidence_where_none_is(self):
        sets, fair, looks = paper(MACHINE, SAYING, wishes=WISHES)
        for row, told in enumerate(looks):
            self.assertFalse(self.both((sets, fair, put(looks, row, None if told else fair))))
            self.assertFalse(self.both((sets, fair, put(looks, row, () if told else ()))))
        self.assertFalse(self.both((sets, None, looks)))
        self.assertFalse(self.both((sets, fair, (None,) * 6)))
        self.assertFalse(self.both((sets, fair, looks[:5])))
        self.assertFalse(self.both((sets, fair, looks + (None,))))
        self.assertFalse(self.both((sets[:5], fair, looks)))
        self.assertFalse(self.both((sets + ((),), fair, looks)))
        for truth in (False, True, 0, "", ()):
            self.assertFalse(self.both((sets, fair, put(looks, 0, truth))))

    def test_other_rings_for_where_fair_runs_begin(self):
        # Three rings; by whichever of them fair is shown, the sets are the same.
        machine = (((0, 1), (1, 2), (0, 2)), (("a",), ("a",), ("b",)))
        sets, fair, looks = paper(machine, KINDS)
        for rings, ranks in ((((0,),), (0, 2, 1)), (((1,),), (1, 0, 2)), (((2, 0, 1),), (0, 0, 0)), (((0,), (2,)), (0, 1, 0))):
            self.assertTrue(self.both((sets, (ranks, rings, (None,) * 3), looks), KINDS, (), machine))
        self.assertFalse(self.both((sets, ((0, 1, 2), ((0,),), (None,) * 3), looks), KINDS, (), machine))

    def test_sets_that_fit_one_another_but_not_the_machine(self):
        # Evidence for a wrong set of the row ahead does not help.
        saying = (("mark", "a"), ("some", "ever", 0))
        fair = paper(MACHINE, saying)[1]
        wrong = (0, 1, 3)
        told = ((wrong, wrong), fair, (None, evidence(MACHINE, wrong, ())))
        self.assertFalse(self.both(told, saying, ()))

    def test_anything_at_any_depth(self):
        right = 0
        for thing in helper.changes(paper(MACHINE, SAYING, wishes=WISHES)):
            right += self.both(thing)
        self.assertGreater(right, 3)

    def test_anything_at_any_depth_of_one_standing(self):
        machine, saying = (((0,),), (("a",),)), (("mark", "a"), ("all", "unless", 0, 0), ("some", "once", 1))
        for thing in helper.changes(paper(machine, saying, wishes=(("a", "b"),))):
            self.both(thing, saying, (("a", "b"),), machine)


if __name__ == "__main__":
    unittest.main()
