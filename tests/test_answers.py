"""Point 2: nothing handed in is changed, and the same question is answered equally again."""

import unittest

from fairtrees import layouts, machines, notes, programs, sayings
from fairtrees.errors import TreeError
from tests import helper
from tests.test_layouts import Right
from tests.test_machines import ORDINARY as MACHINE
from tests.test_programs import ORDINARY as PROGRAM
from tests.test_sayings import ORDINARY as SAYING

OTHER = (((0,),), (("b",),))
WISHES = (("", "a"), ("b", "a"))
TEXT = "all until yes a"
LINES = "a b > 0 2\n>\n> 1"

QUESTIONS = [
    (machines.check, (MACHINE,)), (machines.check, (OTHER,)), (machines.check, ([],)),
    (machines.check_wishes, (WISHES,)), (machines.check_wishes, ([("", "a")],)),
    (machines.bearers, (MACHINE, "a")), (machines.bearers, (OTHER, "")), (machines.bearers, (OTHER, "a")),
    (machines.behind, (MACHINE, 1)), (machines.behind, (OTHER, 0)),
    (machines.reached, (MACHINE, 3)), (machines.reached, (OTHER, 0)),
    (programs.check, (PROGRAM,)), (programs.check, ([PROGRAM],)),
    (layouts.lay, (PROGRAM,)), (layouts.lay, (Right.program,)),
    (layouts.right_layout, (PROGRAM, layouts.lay(PROGRAM))), (layouts.right_layout, (PROGRAM, [[], {}])),
    (sayings.check, (SAYING,)), (sayings.check, ((("yes",), ["no"]),)),
    (notes.text_of, (SAYING,)), (notes.read, (TEXT,)), (notes.read, ([TEXT],)),
    (notes.machine_text, (MACHINE,)), (notes.read_machine, (LINES,)), (notes.read_machine, (["> 0"],)),
]


def told_of(call, args):
    told = helper.refusal(call, *args)
    return (type(told), vars(told)) if isinstance(told, Exception) else told


class Answers(unittest.TestCase):
    def test_nothing_handed_in_is_changed(self):
        for call, args in QUESTIONS:
            helper.unchanged(self, call, *args)

    def test_nothing_handed_in_as_anything_is_changed(self):
        for call in (machines.check, machines.check_wishes, programs.check, sayings.check, notes.read, notes.read_machine):
            for thing in ([1, [2], {"a": [3]}], {"a": [1], 2: {}}, ([],), (([0],), [[]]), ((("a", [])),), [("yes",)]):
                self.assertIsInstance(helper.unchanged(self, call, thing), TreeError)

    def test_the_same_question_is_answered_equally_again(self):
        first = [told_of(call, args) for call, args in QUESTIONS]
        self.assertEqual([told_of(call, args) for call, args in QUESTIONS], first)
        backward = [told_of(call, args) for call, args in QUESTIONS[::-1]]
        self.assertEqual(backward[::-1], first)
        for (call, args), told in zip(QUESTIONS, first):
            self.assertEqual(told_of(call, args), told)
            self.assertEqual(told_of(call, args), told)

    def test_what_is_told_as_a_tuple_has_nothing_else_in_it(self):
        tuples = 0
        for call, args in QUESTIONS:
            told = helper.refusal(call, *args)
            if isinstance(told, tuple):
                tuples += 1
                self.assertTrue(helper.is_plain(told), call)
        self.assertGreater(tuples, 9)

    def test_where_a_point_says_anything_no_other_error_comes_of_it(self):
        for call in (machines.check, machines.check_wishes, programs.check, sayings.check, notes.read, notes.read_machine):
            for thing in helper.anything():
                told = helper.refusal(call, thing)
                self.assertTrue(told is True or type(told) is tuple or isinstance(told, TreeError), (call, told))
        for thing in helper.anything():
            self.assertIs(layouts.right_layout(PROGRAM, thing), False)


if __name__ == "__main__":
    unittest.main()
