"""Point 2: nothing handed in is changed, and the same question is answered equally again."""

import functools
import unittest

from fairtrees import classes, evidence, games, layouts, machines, making, notes, papers, parts, partings, programs, rounds, runs
from fairtrees import sayings, sheets, sides, telling, trees, walks, ways
from fairtrees.errors import NoDeed, NoPaper, NoRun, TreeError
from fairtrees.keeper import Keeper
from tests import helper
from tests.test_layouts import Right
from tests.test_machines import ORDINARY as MACHINE
from tests.test_programs import ORDINARY as PROGRAM
from tests.test_sayings import ORDINARY as SAYING
from tests.test_sheets import ORDINARY as SHEET

OTHER = (((0,),), (("b",),))
WISHES = (("", "a"), ("b", "a"))
TEXT = "all until yes a"
LINES = "a b > 0 2\n>\n> 1"
RUN = ((3, 1), (0, 1))


def pair_of(path, ring):
    return runs.Run(path, ring).pair()


def kept(machine, saying, deeds, *, wishes=()):
    """Tell all that a keeper tells where it does these deeds one after the other, then as a batch, and goes back."""
    keeper = Keeper(machine, saying, wishes=wishes)
    told = [told_of(keeper.do, (deed,)) for deed in deeds] + [told_of(keeper.batch, (deeds,)), told_of(keeper.back, ())]
    return repr(told), keeper.machine(), keeper.sets(), keeper.book(), len(keeper)


QUESTIONS = [
    (machines.check, (MACHINE,)), (machines.check, (OTHER,)), (machines.check, ([],)),
    (machines.check_wishes, (WISHES,)), (machines.check_wishes, ([("", "a")],)),
    (machines.bearers, (MACHINE, "a")), (machines.bearers, (OTHER, "")), (machines.bearers, (OTHER, "a")),
    (machines.behind, (MACHINE, 1)), (machines.behind, (OTHER, 0)),
    (machines.reached, (MACHINE, 3)), (machines.reached, (OTHER, 0)),
    (programs.check, (PROGRAM,)), (programs.check, ([PROGRAM],)),
    (layouts.lay, (PROGRAM,)), (layouts.lay, (Right.program,)),
    (layouts.right_layout, (PROGRAM, layouts.lay(PROGRAM))), (layouts.right_layout, (PROGRAM, [[], {}])),
    (sayings.check, (SAYING,)), (sayings.check, ((("yes",), ["no"]),)),
    (notes.text_of, (SAYING,)), (notes.read, (TEXT,)), (notes.read, ([TEXT],)),
    (notes.machine_text, (MACHINE,)), (notes.read_machine, (LINES,)), (notes.read_machine, (["> 0"],)),
    (runs.right_run, (MACHINE, RUN)), (runs.right_run, (OTHER, RUN)), (runs.right_run, (MACHINE, ([3], [0, {}]))),
    (runs.is_fair, (MACHINE, RUN), {"wishes": WISHES}), (runs.is_fair, (MACHINE, RUN)),
    (runs.holds_on, (("until", (1, 3), (0,)), RUN)), (runs.holds_on, (("ever", (0,)), RUN)),
    (pair_of, RUN), (pair_of, ((3, 0), (1, 0, 1, 0))), (pair_of, ([3], [0])),
    (walks.walks, (MACHINE, 3, 4)), (walks.walks, (OTHER, 0, 4)), (walks.walks, (MACHINE, 3, 60)),
    (walks.walks, ((((0, 1), (0, 1)), ((), ())), 0, 20)),
    (parts.strong_parts, (MACHINE, (0, 1, 2, 3))), (parts.strong_parts, (OTHER, ())),
    (parts.fair_run, (MACHINE, 3, (0, 1, 2, 3)), {"wishes": WISHES}), (parts.fair_run, (MACHINE, 3, (0, 1, 2, 3))),
    (parts.fair_run, (OTHER, 0, (0,)), {"wishes": WISHES}),
    (ways.Way().until, (MACHINE, (0, 1), (2,))), (ways.Way().ever, (MACHINE, (0, 1))),
    *[question for way in (ways.Rounds(), ways.Worklist()) for question in (
        (way.until, (MACHINE, (0, 3), (1,))), (way.until, (OTHER, (), (0,))),
        (way.ever, (MACHINE, (0, 1, 3)), {"wishes": WISHES}), (way.ever, (OTHER, (0,)), {"wishes": WISHES}),
        (way.unless, (MACHINE, (3,), (2,)), {"wishes": WISHES}), (way.unless, (OTHER, (0,), ())),
        (functools.partial(telling.tell, way=way), (MACHINE, SAYING), {"wishes": WISHES}),
    )],
    (evidence.evidence, (MACHINE, (0, 1, 3), (2,)), {"wishes": WISHES}), (evidence.evidence, (OTHER, (0,), ()), {"wishes": WISHES}),
    (evidence.evidence, (MACHINE, (0, 1, 3), (2,)), {"ends": False}),
    (evidence.right_evidence, (MACHINE, (0, 1, 3), (), evidence.evidence(MACHINE, (0, 1, 3), ()))),
    (evidence.right_evidence, (MACHINE, (0, 1, 3), (), ([0, None], [[0]], {}))),
    (telling.tell, (MACHINE, SAYING), {"wishes": WISHES}), (telling.tell, (OTHER, SAYING), {"wishes": WISHES}),
    (telling.holds, (MACHINE, SAYING, 0)), (telling.holds, (OTHER, SAYING, 0), {"wishes": WISHES}),
    (telling.fair, (MACHINE,)), (telling.fair, (OTHER,), {"wishes": WISHES}),
    (papers.paper, (MACHINE, SAYING), {"wishes": WISHES}), (papers.paper, (OTHER, SAYING)),
    (papers.right_paper, (MACHINE, SAYING, papers.paper(MACHINE, SAYING))), (papers.right_paper, (MACHINE, SAYING, ([], {}, [0]))),
    (trees.why, (MACHINE, SAYING, 0), {"wishes": WISHES}), (trees.why, (OTHER, SAYING, 0), {"row": 2}),
    (trees.right_tree, (MACHINE, SAYING, telling.tell(MACHINE, SAYING), trees.why(MACHINE, SAYING, 3))),
    (trees.right_tree, (MACHINE, SAYING, ((),) * 7, ([0, 0, True, None, []], {}))),
    (sheets.check, (SHEET,)), (sheets.check, ((("and", [0]), ["some", 0]),)), (sheets.opposite, (SHEET,)),
    *[(by, args) for by in (rounds.by_rounds, games.by_games, sides.sheet_paper)
      for args in ((MACHINE, SHEET), (OTHER, SHEET), (MACHINE, sheets.opposite(SHEET)))],
    (sides.right_side, (MACHINE, SHEET, sides.sheet_paper(MACHINE, SHEET)[0])),
    (sides.right_side, (MACHINE, SHEET, ([0, 0, -1, []], {}))),
    (sides.right_sheet_paper, (MACHINE, SHEET, sides.sheet_paper(MACHINE, SHEET))),
    (sides.right_sheet_paper, (MACHINE, SHEET, ([[0, 0, -1, []]], {}))),
    (making.sheet_of, (SAYING[:6],), {"wishes": WISHES}), (making.sheet_of, (SAYING[:6],)), (making.sheet_of, (SAYING * 2,)),
    (classes.classes, (MACHINE,)), (classes.classes, (OTHER,)),
    (classes.right_classes, (MACHINE, classes.classes(MACHINE))), (classes.right_classes, (MACHINE, ([0, 0], [[0, "a"]]))),
    (classes.alike, (MACHINE, 0, 1)), (classes.alike, (MACHINE, 2, 2)),
    (classes.quotient, (MACHINE, (0, 1, 2, 3))), (classes.quotient, (OTHER, (0,))), (classes.quotient, (MACHINE, [0, [], {}])),
    (partings.saying_of, (MACHINE, 0)), (partings.saying_of, (OTHER, 0)),
    (partings.parting, (MACHINE, 0, 3)), (partings.parting, (MACHINE, 3, 0)), (partings.parting, (OTHER, 0, 0)),
    (kept, (MACHINE, SAYING, (("put", 3, 3), ("mark", 3, "zz"), ["put", 0, 0], ("bare", 3, "zz"))), {"wishes": WISHES}),
    (kept, (OTHER, SAYING, (("take", 0, 0), ("mark", 0, "a")))), (kept, (OTHER, SAYING, ())),
]


CHECKS = (machines.check, machines.check_wishes, programs.check, sayings.check, notes.read, notes.read_machine, sheets.check)


def told_of(call, args, more=None):
    told = helper.refusal(call, *args, **(more or {}))
    return (type(told), vars(told)) if isinstance(told, Exception) else told


class Answers(unittest.TestCase):
    def test_nothing_handed_in_is_changed(self):
        for call, args, *more in QUESTIONS:
            helper.unchanged(self, call, *args, **(more[0] if more else {}))

    def test_nothing_handed_in_as_anything_is_changed(self):
        for call in CHECKS:
            for thing in ([1, [2], {"a": [3]}], {"a": [1], 2: {}}, ([],), (([0],), [[]]), ((("a", [])),), [("yes",)]):
                self.assertIsInstance(helper.unchanged(self, call, thing), TreeError)

    def test_the_same_question_is_answered_equally_again(self):
        first = [told_of(*question) for question in QUESTIONS]
        self.assertEqual([told_of(*question) for question in QUESTIONS], first)
        backward = [told_of(*question) for question in QUESTIONS[::-1]]
        self.assertEqual(backward[::-1], first)
        for question, told in zip(QUESTIONS, first):
            self.assertEqual(told_of(*question), told)
            self.assertEqual(told_of(*question), told)

    def test_a_told_list_that_is_changed_changes_no_later_answer(self):
        lists = 0
        for question in QUESTIONS:
            told = told_of(*question)
            if isinstance(told, list):
                lists += 1
                kept = list(told)
                told.reverse()
                told.append(told)
                self.assertEqual(told_of(*question), kept)
        self.assertGreater(lists, 3)

    def test_what_is_told_as_a_tuple_has_nothing_else_in_it(self):
        tuples = 0
        for call, args, *more in QUESTIONS:
            told = helper.refusal(call, *args, **(more[0] if more else {}))
            for one in told if isinstance(told, list) else [told]:
                if isinstance(one, tuple):
                    tuples += 1
                    self.assertTrue(helper.is_plain(one), call)
        self.assertGreater(tuples, 9)

    def test_where_a_point_says_anything_no_other_error_comes_of_it(self):
        for call in CHECKS:
            for thing in helper.anything():
                told = helper.refusal(call, thing)
                self.assertTrue(told is True or type(told) is tuple or isinstance(told, TreeError), (call, told))
        for thing in helper.anything():
            self.assertIs(layouts.right_layout(PROGRAM, thing), False)
            self.assertIs(runs.right_run(MACHINE, thing), False)
            self.assertIs(evidence.right_evidence(MACHINE, (0, 1), (), thing, wishes=WISHES), False)
            self.assertIs(evidence.right_evidence(MACHINE, (0, 1), (), thing, ends=False), False)
            self.assertIs(papers.right_paper(MACHINE, SAYING, thing, wishes=WISHES), False)
            self.assertIs(trees.right_tree(MACHINE, SAYING, ((),) * 7, thing), False)
            self.assertIs(sides.right_side(MACHINE, SHEET, thing), type(thing) is tuple and thing == ())
            self.assertIs(sides.right_sheet_paper(MACHINE, SHEET, thing), False)
            self.assertIs(classes.right_classes(MACHINE, thing), False)
            self.assertIsInstance(helper.refusal(classes.quotient, MACHINE, thing), NoPaper)
            self.assertIsInstance(helper.refusal(Keeper(MACHINE, SAYING).do, thing), NoDeed)
            told = helper.refusal(pair_of, thing, thing)
            self.assertTrue(type(told) is tuple or isinstance(told, NoRun), told)


if __name__ == "__main__":
    unittest.main()
