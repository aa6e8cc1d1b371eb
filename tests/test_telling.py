"""Points 3, 11, 12 and 21: where sayings hold, against what their rows mean."""

import itertools
import unittest

from fairtrees.telling import fair, holds, tell
from fairtrees.ways import Rounds, Worklist
from tests import helper
from tests.test_runs import holds as form_holds

FORMS = (("next", 1), ("once", 1), ("ever", 1), ("until", 2), ("unless", 2))
ALL = tuple(range(40))

# 0 and 1 go round, 1 leads to 2, 2 stands still by a step, 3 leads to 2 and 4, 4 has no step.
MACHINE = (((1,), (0, 2), (2,), (2, 4), ()), (("a",), ("b",), ("c",), ("a",), ("b",)))


def fair_runs(machine, wishes, most_path, most_ring):
    """Tell all fair runs with so long paths and rings at most, by their first standings, each told far enough."""
    walks = [[(one,)] for one in range(len(machine[0]))]
    for rows in walks:
        for walk in rows:
            if len(walk) < most_path + most_ring:
                rows.extend((*walk, other) for other in machine[0][walk[-1]])
    told = []
    for rows in walks:
        runs = set()
        for walk in rows:
            for many in range(1, min(most_ring, len(walk)) + 1):
                path, ring = walk[:-many], walk[-many:]
                if len(path) <= most_path and ring[0] in machine[0][ring[-1]] and helper.met(machine, ring, wishes):
                    runs.add(tuple(helper.unrolled((path, ring), most_path + 2 * most_ring)))
        told.append(sorted(runs))
    return told


def meaning_of_row(machine, row, sets, on_runs):
    """Tell the standings of a row, where on_runs says of a row with some or all where it holds."""
    whole = range(len(machine[0]))
    if row[0] in ("some", "all"):
        return on_runs(row, [sets[one] for one in row[2:]])
    if row[0] == "mark":
        return tuple(one for one in whole if row[1] in machine[1][one])
    parts = [sets[one] for one in row[1:]]
    return tuple(one for one in whole if {
        "yes": lambda: True,
        "no": lambda: False,
        "not": lambda: one not in parts[0],
        "and": lambda: one in parts[0] and one in parts[1],
        "or": lambda: one in parts[0] or one in parts[1],
        "step": lambda: any(other in parts[0] for other in machine[0][one]),
    }[row[0]]())


def by_runs(machine, saying, wishes):
    """Tell what a saying means on a machine of at most three standings, run by run."""
    # A ring through three standings has at most four numbers; two and two steps lead to a goal and on to a ring.
    runs = fair_runs(machine, wishes, 5, 4)

    def on_runs(row, sets):
        takes = any if row[0] == "some" else all
        return tuple(one for one, told in enumerate(runs) if takes(form_holds((row[1], *sets), run) for run in told))

    sets = []
    for row in saying:
        sets.append(meaning_of_row(machine, row, sets, on_runs))
    return tuple(sets)


def by_sets(machine, saying, wishes):
    """Tell what a saying means on a small machine by going through all sets of standings."""
    whole = tuple(range(len(machine[0])))
    begins = helper.ever_of(machine, whole, wishes)

    def some(word, sets):
        goal = tuple(one for one in begins if one in sets[-1])
        if word == "next":
            return {one for one in whole if set(goal) & set(machine[0][one])}
        until = helper.until_of(machine, whole if word == "once" else sets[0], goal)
        ever = helper.ever_of(machine, sets[0], wishes)
        return set({"once": until, "until": until, "ever": ever, "unless": until + ever}[word])

    def on_runs(row, sets):
        if row[0] == "some":
            return tuple(sorted(some(row[1], sets)))
        off = [tuple(one for one in whole if one not in told) for told in sets]
        both = tuple(one for one in off[0] if one in off[-1])
        against = {"next": ("next", off), "once": ("ever", off), "ever": ("once", off),
                   "until": ("unless", (off[-1], both)), "unless": ("until", (off[-1], both))}[row[1]]
        return tuple(sorted(set(whole) - some(*against)))

    sets = []
    for row in saying:
        sets.append(meaning_of_row(machine, row, sets, on_runs))
    return tuple(sets)


def every_kind(first, last):
    """Tell a saying with a row of each kind over two rows."""
    rows = [first, last, ("yes",), ("no",), ("not", 0), ("and", 0, 1), ("or", 0, 1), ("step", 0), ("step", 1)]
    for word in ("some", "all"):
        for form, parts in FORMS:
            rows += [(word, form, *pair[:parts]) for pair in ((0, 1), (1, 0))]
    return tuple(rows)


KINDS = every_kind(("mark", "a"), ("mark", "b"))


class Asked(Rounds):
    """A way that keeps what it is asked."""

    def __init__(self):
        self.asked = []

    def until(self, machine, within, goal):
        self.asked.append("until")
        return Rounds.until(self, machine, within, goal)

    def ever(self, machine, within, *, wishes=()):
        self.asked.append("ever")
        return Rounds.ever(self, machine, within, wishes=wishes)


class Tell(unittest.TestCase):
    def check(self, machine, saying, wishes, told):
        for way in (None, Rounds(), Worklist()):
            self.assertEqual(tell(machine, saying, wishes=wishes, way=way), told, (machine, saying, wishes, way))
        answer = tell(machine, saying, wishes=wishes)
        self.assertEqual(answer, told)
        self.assertTrue(type(answer) is tuple and helper.is_plain(answer))

    def last(self, row, wishes=()):
        return tell(MACHINE, (("mark", "a"), ("mark", "b"), ("mark", "c"), row), wishes=wishes)[-1]

    def test_rows_without_runs(self):
        self.assertEqual(self.last(("yes",)), (0, 1, 2, 3, 4))
        self.assertEqual(self.last(("no",)), ())
        self.assertEqual(self.last(("mark", "b")), (1, 4))
        self.assertEqual(self.last(("mark", "zz")), ())
        self.assertEqual(self.last(("not", 0)), (1, 2, 4))
        self.assertEqual(self.last(("or", 0, 2)), (0, 2, 3))
        self.assertEqual(self.last(("and", 0, 1)), ())
        self.assertEqual(self.last(("and", 0, 0)), (0, 3))
        self.assertEqual(self.last(("step", 1)), (0, 3))
        self.assertEqual(self.last(("step", 2)), (1, 2, 3))

    def test_rows_of_runs(self):
        for row, told in (
            (("some", "next", 1), (0,)), (("all", "next", 2), (2, 3, 4)), (("some", "once", 2), (0, 1, 2, 3)),
            (("all", "once", 2), (2, 3, 4)), (("some", "ever", 2), (2,)), (("all", "ever", 2), (2, 4)),
            (("some", "until", 0, 1), (0, 1)), (("all", "until", 0, 1), (0, 1, 4)), (("some", "until", 0, 2), (2, 3)),
            (("all", "until", 0, 2), (2, 3, 4)), (("some", "unless", 2, 1), (1, 2)), (("all", "unless", 2, 1), (1, 2, 4)),
        ):
            self.assertEqual(self.last(row), told, row)

    def test_rows_of_runs_under_wishes(self):
        leaves = (("b", "zz"),)
        self.assertEqual(self.last(("all", "once", 2), leaves), (0, 1, 2, 3, 4))
        self.assertEqual(self.last(("some", "ever", 0), leaves), ())
        stays = (("", "a"), ("a", "b"))
        self.assertEqual(self.last(("some", "once", 2), stays), ())
        self.assertEqual(self.last(("all", "ever", 2), stays), (2, 3, 4))
        self.assertEqual(self.last(("some", "next", 1), stays), (0,))

    def test_where_no_fair_run_begins(self):
        saying = every_kind(("yes",), ("no",))
        for wishes, none in (((), (4,)), ((("", "zz"),), (0, 1, 2, 3, 4)), ((("", "a"),), (2, 3, 4)), ((("c", "zz"),), (2, 3, 4))):
            told = tell(MACHINE, saying, wishes=wishes)
            for row, standings in zip(saying, told):
                for standing in none:
                    if row[0] == "some":
                        self.assertNotIn(standing, standings, row)
                    if row[0] == "all":
                        self.assertIn(standing, standings, row)

    def test_step_asks_for_no_run(self):
        for wishes in ((), (("", "zz"),)):
            told = tell(MACHINE, (("mark", "b"), ("step", 0), ("some", "next", 0)), wishes=wishes)
            self.assertEqual(told[1], (0, 3))
            self.assertEqual(told[2], () if wishes else (0,))

    def test_every_kind_run_by_run(self):
        seen = set()
        for chance in helper.chances(150):
            machine = helper.some_machine(chance, chance.randint(1, 3))
            wishes = helper.some_wishes(chance, chance.randint(0, 3))
            told = by_runs(machine, KINDS, wishes)
            self.assertEqual(told, by_sets(machine, KINDS, wishes))
            self.check(machine, KINDS, wishes, told)
            seen.add(told)
        self.assertGreater(len(seen), 80)

    def test_all_machines_of_two_standings_run_by_run(self):
        for steps in itertools.product(((), (0,), (1,), (0, 1)), repeat=2):
            for marks in itertools.product(((), ("a",), ("b",)), repeat=2):
                for wishes in ((), (("a", "b"),), (("", "a"), ("", "b"))):
                    self.check((steps, marks), KINDS, wishes, by_runs((steps, marks), KINDS, wishes))

    def test_sayings_within_sayings_run_by_run(self):
        for chance in helper.chances(100):
            machine = helper.some_machine(chance, chance.randint(1, 3))
            wishes = helper.some_wishes(chance, chance.randint(0, 3))
            saying = helper.some_saying(chance, chance.randint(1, 12))
            self.check(machine, saying, wishes, by_runs(machine, saying, wishes))

    def test_sayings_within_sayings_by_sets(self):
        for chance in helper.chances(150):
            machine = helper.some_machine(chance, chance.randint(4, 6))
            wishes = helper.some_wishes(chance, chance.randint(0, 4))
            saying = KINDS + tuple(
                row if row[0] == "mark" else tuple(one + len(KINDS) if isinstance(one, int) else one for one in row)
                for row in helper.some_saying(chance, 12))
            self.check(machine, saying, wishes, by_sets(machine, saying, wishes))

    def test_both_ways_on_great_machines(self):
        for chance in helper.chances(40):
            machine = helper.some_machine(chance, chance.randint(25, 40))
            wishes = helper.some_wishes(chance, chance.randint(0, 4))
            saying = KINDS + tuple((*row[:2], *[one + 9 for one in row[2:]]) for row in KINDS if row[0] in ("some", "all"))
            self.check(machine, saying, wishes, tell(machine, saying, wishes=wishes))

    def test_160_rows(self):
        row = (tuple((one + 1,) for one in range(39)) + ((39,),), ((),) * 39 + (("a",),))
        saying = (("mark", "a"),) + tuple(("some", "next", one) for one in range(159))
        self.check(row, saying, (), tuple(ALL[max(0, 39 - many):] for many in range(160)))
        saying = (("mark", "a"),) + tuple(("all", "next", one) for one in range(159))
        self.check(row, saying, (("", "a"),), tuple(ALL[max(0, 39 - many):] for many in range(160)))
        self.check(row, saying, (("", "b"),), (ALL[39:],) + (ALL,) * 159)
        for chance in helper.chances(6):
            machine = helper.some_machine(chance, 5)
            saying = helper.some_saying(chance, 160)
            wishes = helper.some_wishes(chance, 2)
            self.check(machine, saying, wishes, by_sets(machine, saying, wishes))

    def test_the_way_handed_in_is_asked(self):
        for call, rest, word in ((tell, (KINDS,), "until"), (holds, (KINDS, 0), "until"), (fair, (), "ever")):
            way = Asked()
            self.assertEqual(call(MACHINE, *rest, way=way), call(MACHINE, *rest))
            self.assertIn(word, way.asked)

    def test_wishes_and_way_left_out(self):
        self.assertEqual(tell(MACHINE, (("yes",), ("some", "ever", 0))), ((0, 1, 2, 3, 4), (0, 1, 2, 3)))
        self.assertEqual(tell(MACHINE, (("yes",), ("some", "ever", 0)), way=Rounds()), ((0, 1, 2, 3, 4), (0, 1, 2, 3)))
        self.assertEqual(tell(MACHINE, (("yes",),)), ((0, 1, 2, 3, 4),))


class Holds(unittest.TestCase):
    def test_at_each_standing(self):
        for chance in helper.chances(60):
            many = chance.randint(1, 8)
            machine = helper.some_machine(chance, many)
            wishes = helper.some_wishes(chance, chance.randint(0, 3))
            saying = helper.some_saying(chance, chance.randint(1, 9))
            told = tell(machine, saying, wishes=wishes)[-1]
            for standing in range(many):
                for way in (None, Rounds(), Worklist()):
                    self.assertIs(holds(machine, saying, standing, wishes=wishes, way=way), standing in told)

    def test_left_out(self):
        self.assertEqual([holds(MACHINE, (("mark", "a"), ("some", "next", 0)), one) for one in range(5)],
                         [False, True, False, False, False])
        self.assertIs(holds(MACHINE, (("yes",), ("all", "once", 0)), 4), True)
        self.assertIs(holds(MACHINE, (("yes",), ("some", "once", 0)), 4), False)


class Fair(unittest.TestCase):
    def test_where_fair_runs_begin(self):
        for way in (None, Rounds(), Worklist()):
            self.assertEqual(fair(MACHINE, way=way), (0, 1, 2, 3))
            self.assertEqual(fair(MACHINE, wishes=(("", "a"),), way=way), (0, 1))
            self.assertEqual(fair(MACHINE, wishes=(("a", "zz"),), way=way), (0, 1, 2, 3))
            self.assertEqual(fair(MACHINE, wishes=(("", "zz"),), way=way), ())
        self.assertEqual(fair(MACHINE), (0, 1, 2, 3))

    def test_by_chance(self):
        for chance in helper.chances(100):
            machine = helper.some_machine(chance, chance.randint(1, 6))
            wishes = helper.some_wishes(chance, chance.randint(0, 4))
            told = helper.ever_of(machine, tuple(range(len(machine[0]))), wishes)
            for way in (None, Rounds(), Worklist()):
                self.assertEqual(fair(machine, wishes=wishes, way=way), told)


if __name__ == "__main__":
    unittest.main()
