"""The interface: each name is there, with its arguments by their names and in their order."""

import importlib
import inspect
import unittest

FUNCTIONS = {
    "machines": ["check(thing)", "check_wishes(thing)", "bearers(machine, name)", "behind(machine, standing)",
                 "reached(machine, standing)"],
    "programs": ["check(thing)"],
    "layouts": ["lay(program, *, most=40)", "right_layout(program, thing)"],
    "sayings": ["check(thing)"],
    "notes": ["text_of(saying)", "read(text)", "machine_text(machine)", "read_machine(text)"],
    "runs": ["right_run(machine, thing)", "is_fair(machine, run, *, wishes=())", "holds_on(form, run)"],
    "walks": ["walks(machine, standing, length)"],
    "parts": ["strong_parts(machine, within)", "fair_run(machine, standing, within, *, wishes=())"],
    "evidence": ["right_evidence(machine, within, goal, thing, *, wishes=(), ends=True)",
                 "evidence(machine, within, goal, *, wishes=(), ends=True)"],
    "telling": ["tell(machine, saying, *, wishes=(), way=None)", "holds(machine, saying, standing, *, wishes=(), way=None)",
                "fair(machine, *, wishes=(), way=None)"],
    "papers": ["paper(machine, saying, *, wishes=())", "right_paper(machine, saying, thing, *, wishes=())"],
    "trees": ["why(machine, saying, standing, *, wishes=(), row=None)",
              "right_tree(machine, saying, sets, thing, *, wishes=())"],
    "sheets": ["check(thing)", "opposite(sheet)"],
    "rounds": ["by_rounds(machine, sheet)"],
    "games": ["by_games(machine, sheet)"],
    "sides": ["right_side(machine, sheet, thing)", "right_sheet_paper(machine, sheet, thing)", "sheet_paper(machine, sheet)"],
    "making": ["sheet_of(saying, *, wishes=())"],
    "classes": ["classes(machine)", "right_classes(machine, thing)", "alike(machine, one, other)", "quotient(machine, row)"],
    "partings": ["saying_of(machine, standing)", "parting(machine, one, other)"],
}
WAY = ["until(self, machine, within, goal)", "ever(self, machine, within, *, wishes=())",
       "unless(self, machine, within, goal, *, wishes=())"]
CLASSES = {
    ("runs", "Run"): ["__init__(self, path, ring)", "at(self, place)", "pair(self)", "__eq__(self, other)", "__len__(self)",
                      "__str__(self)"],
    ("ways", "Way"): WAY,
    ("ways", "Rounds"): WAY,
    ("ways", "Worklist"): WAY,
    ("keeper", "Keeper"): ["__init__(self, machine, saying, *, wishes=())", "machine(self)", "sets(self)", "do(self, deed)",
                           "batch(self, deeds)", "back(self)", "book(self)", "__len__(self)"],
}


def module(name):
    return importlib.import_module(f"fairtrees.{name}")


class Interface(unittest.TestCase):
    def test_functions(self):
        for name, functions in FUNCTIONS.items():
            for told in functions:
                function = getattr(module(name), told.partition("(")[0])
                self.assertEqual(f"{function.__name__}{inspect.signature(function)}", told)
                self.assertEqual(function.__module__, f"fairtrees.{name}")

    def test_classes_have_their_methods_in_themselves(self):
        for (name, kind), methods in CLASSES.items():
            own = vars(getattr(module(name), kind))
            for told in methods:
                method = own[told.partition("(")[0]]
                self.assertEqual(f"{method.__name__}{inspect.signature(method)}", told)

    def test_ways_are_under_way_and_neither_under_the_other(self):
        ways = module("ways")
        self.assertEqual((ways.Rounds.__bases__, ways.Worklist.__bases__), ((ways.Way,), (ways.Way,)))


if __name__ == "__main__":
    unittest.main()
