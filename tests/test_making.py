"""Points 3 and 30: sheets made of sayings."""

import itertools
import unittest

from fairtrees.errors import TooGreat
from fairtrees.games import by_games
from fairtrees.making import sheet_of
from fairtrees.rounds import by_rounds
from fairtrees.sheets import check
from fairtrees.sides import right_sheet_paper, sheet_paper
from fairtrees.telling import tell
from tests import helper

ROWS = [("yes",), ("no",), ("mark", "b"), ("not", 0), ("and", 0, 1), ("or", 0, 1), ("step", 0)] + [
    (word, form, *numbers) for word in ("some", "all")
    for form, numbers in (("next", (0,)), ("once", (0,)), ("ever", (0,)), ("until", (0, 1)), ("unless", (0, 1)),
                          ("until", (1, 0)), ("unless", (1, 0)))]
# Nobody bears zz, so no run is fair where it is wished for.
WISHES = [(), (("", "a"),), (("a", "b"),), (("a", "b"), ("b", "a")), (("", "a"), ("", "b")), (("", "a"), ("b", "c")),
          (("a", "zz"), ("b", "zz")), (("", "zz"),), (("a", "a"), ("a", "b"))]

# 0 and 1 go round, 1 leads to 2, which goes round alone or leads to 3; 3 leads nowhere, 4 to 0 and 2.
MACHINE = (((1,), (0, 2), (2, 3), (), (0, 2)), (("a",), ("b",), ("a", "b"), ("c",), ()))
ALL = tuple(range(40))


class Making(unittest.TestCase):
    def check(self, machines, saying, wishes):
        sheet = sheet_of(saying, wishes=wishes)
        self.assertTrue(type(sheet) is tuple and helper.is_plain(sheet))
        self.assertIs(check(sheet), True)
        self.assertEqual(sheet_of(saying, wishes=wishes), sheet)
        for machine in machines:
            told = tell(machine, saying, wishes=wishes)[-1]
            self.assertEqual(by_rounds(machine, sheet)[0], told, (machine, saying, wishes))
            self.assertEqual(by_games(machine, sheet)[0], told, (machine, saying, wishes))
        return sheet

    def test_each_kind_of_row_with_each_kind_of_wishes(self):
        machines = [MACHINE, (((),), ((),)), (((0,),), (("a",),)), (((), ()), (("a",), ("b",)))]
        machines += [helper.some_machine(chance, 4) for chance in helper.chances(6)]
        for wishes in WISHES:
            for row in ROWS:
                self.check(machines, (("mark", "a"), ("mark", "b"), row), wishes)
                self.check(machines, (("mark", "a"), ("mark", "b"), row, ("not", 2)), wishes)

    def test_one_row(self):
        for row in (("yes",), ("no",), ("mark", "a"), ("mark", "zz")):
            self.check([MACHINE, (((),), ((),))], (row,), ())

    def test_all_machines_of_two_standings(self):
        sets = [row for many in range(3) for row in itertools.combinations(range(2), many)]
        machines = [(steps, marks) for steps in itertools.product(sets, repeat=2)
                    for marks in itertools.product(((), ("a",), ("b",), ("a", "b")), repeat=2)]
        for wishes in WISHES[1:5]:
            for row in ROWS[7:]:
                self.check(machines[::3], (("mark", "a"), ("mark", "b"), row), wishes)

    def test_sayings_machines_and_wishes_by_chance(self):
        for chance in helper.chances(400):
            machines = [helper.some_machine(chance, chance.randint(1, 6)) for _ in range(2)]
            saying = helper.some_saying(chance, chance.randint(1, 6))
            self.check(machines, saying, helper.some_wishes(chance, chance.randint(0, 2)))

    def test_sayings_of_runs_alone_within_one_another(self):
        for chance in helper.chances(120):
            rows = [("mark", "a"), ("mark", "b")]
            while len(rows) < 6:
                word, form, *numbers = chance.choice(ROWS[7:])
                rows.append((word, form, *[chance.randrange(max(0, len(rows) - 3), len(rows)) for _ in numbers]))
            machines = [helper.some_machine(chance, chance.randint(2, 6))]
            self.check(machines, tuple(rows), chance.choice(WISHES))

    def test_40_standings(self):
        ring = (tuple(((one + 1) % 40,) for one in ALL), tuple(("a",) if one % 9 == 0 else ("b",) for one in ALL))
        chain = (tuple((one + 1,) for one in ALL[:39]) + ((),), ring[1])
        saying = (("mark", "a"), ("mark", "b"), ("some", "unless", 1, 0), ("all", "until", 2, 0), ("some", "ever", 3),
                  ("all", "once", 4))
        for wishes in WISHES:
            self.check([ring, chain, helper.some_machine(helper.chances(1)[0], 40)], saying, wishes)

    def test_the_paper_of_such_a_sheet(self):
        for wishes in WISHES[:5]:
            saying = (("mark", "a"), ("some", "ever", 0), ("all", "until", 0, 1), ("not", 2))
            sheet = sheet_of(saying, wishes=wishes)
            told = sheet_paper(MACHINE, sheet)
            self.assertTrue(right_sheet_paper(MACHINE, sheet, told))
            self.assertEqual(tuple(entry[1] for entry in told[0] if entry[0] == 0), tell(MACHINE, saying, wishes=wishes)[-1])

    def test_wishes_left_out(self):
        saying = (("mark", "a"), ("some", "ever", 0))
        self.assertEqual(sheet_of(saying), sheet_of(saying, wishes=()))
        self.assertNotEqual(sheet_of(saying), sheet_of(saying, wishes=(("", "a"),)))

    def test_six_rows_and_seven_two_wishes_and_three(self):
        wish = ("a", "b")
        for row in (("yes",), ("mark", "a")):
            for many in (1, 5, 6):
                for wishes in ((), (wish,), (wish, wish)):
                    self.assertIs(check(sheet_of((row,) * many, wishes=wishes)), True)
                for wishes in ((wish,) * 3, (wish,) * 4):
                    self.assertIs(type(helper.refusal(sheet_of, (row,) * many, wishes=wishes)), TooGreat)
            for many in (7, 8, 160):
                for wishes in ((), (wish, wish), (wish,) * 3):
                    self.assertIs(type(helper.refusal(sheet_of, (row,) * many, wishes=wishes)), TooGreat)


if __name__ == "__main__":
    unittest.main()
