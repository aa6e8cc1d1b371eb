"""Point 7: what is a program."""

import unittest

from fairtrees import programs
from fairtrees.errors import NoProgram
from tests import helper

ORDINARY = (
    (("x", 3, 0), ("y", 2, 1)),
    (("go", (("x", "under", 2), ("y", "not", ("x", -1))), (("x", ("x", 1)), ("y", 0))), ("stop", (), ())),
    (("hot", ((("x", "is", 2), ("can", "go")), (("last", "stop"),))), ("x", ())),
    True,
)


def is_worth(thing, cells):
    if type(thing) is int:
        return 0 <= thing <= 8
    return type(thing) is tuple and len(thing) == 2 and type(thing[0]) is str and thing[0] in cells \
        and type(thing[1]) is int and abs(thing[1]) <= 8


def is_test(thing, cells):
    return type(thing) is tuple and len(thing) == 3 and type(thing[0]) is str and thing[0] in cells \
        and type(thing[1]) is str and thing[1] in ("is", "not", "under") and is_worth(thing[2], cells)


def tuples(thing, many, size):
    """Say whether the thing is a tuple of at most so many tuples of this size."""
    return type(thing) is tuple and len(thing) <= many and all(type(one) is tuple and len(one) == size for one in thing)


def named(thing):
    return all(helper.is_name(one[0]) for one in thing) and len({one[0] for one in thing}) == len(thing)


def is_program(thing):
    """Say by Python's own means whether the thing is a program."""
    if type(thing) is not tuple or len(thing) != 4 or type(thing[3]) is not bool:
        return False
    cells, commands, marks, keeps = thing
    if not (tuples(cells, 4, 3) and cells and named(cells)):
        return False
    for _, size, first in cells:
        if type(size) is not int or type(first) is not int or not 1 <= size <= 9 or not 0 <= first < size:
            return False
    names = [cell[0] for cell in cells]
    if not (tuples(commands, 8, 3) and named(commands)):
        return False
    for _, tests, sets in commands:
        if type(tests) is not tuple or len(tests) > 4 or not all(is_test(one, names) for one in tests):
            return False
        if not tuples(sets, 4, 2) or not all(type(one[0]) is str and one[0] in names for one in sets):
            return False
        if len({one[0] for one in sets}) < len(sets) or not all(is_worth(one[1], names) for one in sets):
            return False
    called = [command[0] for command in commands]
    if not (tuples(marks, 8, 2) and named(marks)):
        return False
    for _, rows in marks:
        if type(rows) is not tuple or len(rows) > 4 or any(type(row) is not tuple or len(row) > 4 for row in rows):
            return False
        for one in [one for row in rows for one in row]:
            asks = type(one) is tuple and len(one) == 2 and [type(part) for part in one] == [str, str] \
                and one[0] in (("can", "last") if keeps else ("can",)) and one[1] in called
            if not asks and not is_test(one, names):
                return False
    return True


def program(cells=(("x", 3, 0),), commands=(), marks=(), keeps=False):
    return cells, commands, marks, keeps


class Check(unittest.TestCase):
    def right(self, thing):
        self.assertTrue(is_program(thing))
        self.assertIs(programs.check(thing), True)

    def wrong(self, thing):
        self.assertFalse(is_program(thing))
        with self.assertRaises(NoProgram):
            programs.check(thing)

    def test_an_ordinary_program_and_the_least_one(self):
        self.right(ORDINARY)
        self.right(program())

    def test_cells(self):
        for many in (1, 4):
            self.right(program(cells=tuple((name, 2, 1) for name in "abcd"[:many])))
        for many in (0, 5):
            self.wrong(program(cells=tuple((name, 2, 1) for name in "abcde"[:many])))
        self.wrong(program(cells=(("a", 2, 0), ("a", 3, 0))))
        self.wrong(program(cells=(("a", 2),)))
        self.wrong(program(cells=(("a", 2, 0, 0),)))
        for name in ("", "A", "not", "abcdefghi", "a\n", 0, None):
            self.wrong(program(cells=((name, 2, 0),)))

    def test_sizes_and_firsts(self):
        for size, first in ((1, 0), (9, 0), (9, 8), (5, 4)):
            self.right(program(cells=(("a", size, first),)))
        for size, first in ((0, 0), (10, 0), (-1, 0), (1, 1), (9, 9), (5, 5), (5, -1), (True, 0), (2, False), ("2", 0),
                            (2, None), (10 ** 999, 0), (9, 10 ** 999)):
            self.wrong(program(cells=(("a", size, first),)))

    def test_commands(self):
        for many in (0, 8):
            self.right(program(commands=tuple((name, (), ()) for name in "abcdefgh"[:many])))
        self.wrong(program(commands=tuple((name, (), ()) for name in "abcdefghi")))
        self.wrong(program(commands=(("a", (), ()), ("a", (), (("x", 1),)))))
        self.wrong(program(commands=(("a", ()),)))
        self.wrong(program(commands=(("a", (), (), ()),)))
        for name in ("", "A", "all", "abcdefghi", "a\n", 0, None):
            self.wrong(program(commands=((name, (), ()),)))

    def test_tests(self):
        for many in (0, 4):
            self.right(program(commands=(("a", (("x", "is", 0),) * many, ()),)))
        self.wrong(program(commands=(("a", (("x", "is", 0),) * 5, ()),)))
        for sign in ("is", "not", "under"):
            self.right(program(commands=(("a", (("x", sign, 0),), ()),)))
        for test in (("x", "over", 0), ("x", "", 0), ("x", None, 0), ("y", "is", 0), ("x", "is"), ("x", "is", 0, 0),
                     ("can", "a"), ("last", "a"), ["x", "is", 0]):
            self.wrong(program(commands=(("a", (test,), ()),)))

    def test_sets(self):
        cells = tuple((name, 2, 0) for name in "abcd")
        self.right(program(cells=cells, commands=(("a", (), tuple((name, 1) for name in "abcd")),)))
        self.right(program(cells=cells, commands=(("a", (), ()),)))
        self.wrong(program(cells=cells, commands=(("a", (), tuple((name, 1) for name in "abcda")),)))
        self.wrong(program(cells=cells, commands=(("a", (), (("a", 1), ("a", 0))),)))
        for put in (("e", 1), ("a",), ("a", 1, 1), ["a", 1], "ab", ("", 1), (0, 1)):
            self.wrong(program(cells=cells, commands=(("a", (), (put,)),)))

    def test_worths_and_shifts(self):
        for worth in (0, 8, ("x", 0), ("x", 8), ("x", -8)):
            self.right(program(commands=(("a", (("x", "is", worth),), (("x", worth),)),)))
        for worth in (-1, 9, True, False, None, "x", ("x", 9), ("x", -9), ("x", True), ("x",), ("x", 0, 0), ("y", 0),
                      (0, "x"), ["x", 0], ("x", ("x", 0)), ("x", None), 10 ** 999):
            self.wrong(program(commands=(("a", (("x", "is", worth),), ()),)))
            self.wrong(program(commands=(("a", (), (("x", worth),)),)))
            self.wrong(program(marks=(("a", ((("x", "is", worth),),)),)))

    def test_marks(self):
        for many in (0, 8):
            self.right(program(marks=tuple((name, ()) for name in "abcdefgh"[:many])))
        self.wrong(program(marks=tuple((name, ()) for name in "abcdefghi")))
        self.wrong(program(marks=(("a", ()), ("a", ()))))
        self.wrong(program(marks=(("a",),)))
        self.wrong(program(marks=(("a", (), ()),)))
        for name in ("", "A", "ever", "abcdefghi", "a\n", 0, None):
            self.wrong(program(marks=((name, ()),)))

    def test_rows_and_things_of_a_row(self):
        test = ("x", "is", 0)
        for many in (0, 4):
            self.right(program(marks=(("a", ((),) * many),)))
            self.right(program(marks=(("a", ((test,) * many,)),)))
        self.wrong(program(marks=(("a", ((),) * 5),)))
        self.wrong(program(marks=(("a", ((test,) * 5,)),)))
        self.wrong(program(marks=(("a", test),)))
        self.wrong(program(marks=(("a", (test,)),)))
        self.wrong(program(marks=(("a", ([],)),)))
        self.wrong(program(marks=(("a", []),)))

    def test_can_and_last(self):
        commands = (("go", (), ()),)
        for keeps in (True, False):
            self.right(program(commands=commands, marks=(("a", ((("can", "go"),),)),), keeps=keeps))
            for thing in (("can", "x"), ("can", "no"), ("can",), ("can", "go", 0), ("may", "go"), ("go", "can"), "go"):
                self.wrong(program(commands=commands, marks=(("a", ((thing,),)),), keeps=keeps))
        last = (("a", ((("last", "go"),),)),)
        self.right(program(commands=commands, marks=last, keeps=True))
        self.wrong(program(commands=commands, marks=last, keeps=False))
        self.wrong(program(commands=commands, marks=(("a", ((("last", "x"),),)),), keeps=True))

    def test_a_cell_a_command_and_a_mark_may_be_called_alike(self):
        self.right(program(commands=(("x", (), (("x", 1),)),), marks=(("x", ((("can", "x"), ("x", "is", 1)),)),)))

    def test_keeps_is_true_or_false(self):
        for keeps in (True, False):
            self.right(program(keeps=keeps))
        for keeps in (0, 1, None, "True", "", (), helper.Greedy()):
            self.wrong(program(keeps=keeps))

    def test_other_numbers_of_parts(self):
        self.wrong(program()[:3])
        self.wrong((*program(), False))
        self.wrong(list(program()))

    def test_anything_at_any_depth(self):
        for thing in helper.changes(ORDINARY):
            if is_program(thing):
                self.assertIs(programs.check(thing), True, repr(thing)[:200])
            else:
                self.assertIsInstance(helper.refusal(programs.check, thing), NoProgram, repr(thing)[:200])


if __name__ == "__main__":
    unittest.main()
