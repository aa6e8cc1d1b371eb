"""Points 8 and 9: rooms and layouts."""

import unittest

from fairtrees import layouts, machines, programs
from fairtrees.errors import TooGreat
from tests import helper


def line(many):
    """Tell a program that goes through just so many rooms and then stands still."""
    high, low = divmod(many - 1, 9)
    go = ("go", (("low", "under", 8), ("high", "under", high)), (("low", ("low", 1)),))
    turn = ("turn", (("low", "is", 8), ("high", "under", high)), (("low", 0), ("high", ("high", 1))))
    last = ("stroll", (("low", "under", low), ("high", "is", high)), (("low", ("low", 1)),))
    return (("low", 9, 0), ("high", 9, 0)), (go, turn, last), (), False


def layout_of(program):
    """Tell the layout by another way than the package's: rooms as dicts, names looked up anew each time."""
    cells, commands, marks, keeps = program

    def worth(room, told):
        return room[told[0]] + told[1] if isinstance(told, tuple) else told

    def holds(room, thing):
        if len(thing) == 2:
            command = next(one for one in commands if one[0] == thing[1])
            if thing[0] == "last":
                return room[""] == commands.index(command)
            return all(holds(room, test) for test in command[1])
        name, sign, told = thing
        least = room[name] - worth(room, told)
        return {"is": least == 0, "not": least != 0, "under": least < 0}[sign]

    first = {name: told for name, size, told in cells}
    if keeps:
        first[""] = -1
    rooms, steps = [first], []
    for room in rooms:
        leads = set()
        for number, (name, tests, sets) in enumerate(commands):
            if all(holds(room, test) for test in tests):
                new = dict(room)
                for cell, told in sets:
                    size = next(one[1] for one in cells if one[0] == cell)
                    new[cell] = worth(room, told) - size * (worth(room, told) // size)
                if keeps:
                    new[""] = number
                if new not in rooms:
                    rooms.append(new)
                leads.add(rooms.index(new))
        steps.append(tuple(sorted(leads)))
        if len(rooms) > 40:
            return None
    names = [{name for name, rows in marks if any(all(holds(room, one) for one in row) for row in rows)}
             for room in rooms]
    return (tuple(steps), tuple(tuple(sorted(one)) for one in names)), tuple(tuple(room.values()) for room in rooms)


def some_program(chance):
    """Tell a program, by the chance handed in."""
    cells = tuple((name, size, chance.randrange(size)) for name, size in
                  ((name, chance.randint(1, 9)) for name in "xyz"[:chance.randint(1, 3)]))
    names = [cell[0] for cell in cells]
    keeps = chance.random() < 0.5

    def worth():
        return chance.choice([chance.randint(0, 8), (chance.choice(names), chance.randint(-8, 8))])

    def test():
        return chance.choice(names), chance.choice(["is", "not", "under"]), worth()

    commands = tuple(
        (name, tuple(test() for _ in range(chance.randint(0, 2))),
         tuple((cell, worth()) for cell in chance.sample(names, chance.randint(0, len(names)))))
        for name in ("x", "go", "stop", "turn")[:chance.randint(0, 4)])
    asks = [(word, one[0]) for one in commands for word in (("can", "last") if keeps else ("can",))]

    def thing():
        return chance.choice([test(), chance.choice(asks)] if asks else [test()])

    marks = tuple((name, tuple(tuple(thing() for _ in range(chance.randint(0, 2))) for _ in range(chance.randint(0, 2))))
                  for name in chance.sample(["b", "a", "x", "last"], chance.randint(0, 4)))
    return cells, commands, marks, keeps


class Rooms(unittest.TestCase):
    def test_rooms_as_they_come(self):
        program = ((("x", 4, 1), ("y", 2, 0)),
                   (("up", (), (("x", ("x", 1)),)), ("flip", (("x", "is", 1),), (("y", ("y", 1)),))), (), False)
        machine, rooms = layouts.lay(program)
        self.assertEqual(rooms, ((1, 0), (2, 0), (1, 1), (3, 0), (2, 1), (0, 0), (3, 1), (0, 1)))
        self.assertEqual(machine, (((1, 2), (3,), (0, 4), (5,), (6,), (0,), (7,), (2,)), ((),) * 8))

    def test_the_rest_is_from_0_on_for_negative_worths_too(self):
        program = ((("x", 5, 0),), (("down", (), (("x", ("x", -8)),)),), (), False)
        self.assertEqual(layouts.lay(program), ((((1,), (2,), (3,), (4,), (0,)), ((),) * 5), ((0,), (2,), (4,), (1,), (3,))))
        program = ((("x", 3, 0),), (("much", (), (("x", 8),)),), (), False)
        self.assertEqual(layouts.lay(program)[1], ((0,), (2,)))

    def test_the_rest_is_taken_by_the_size_of_the_cell_that_is_put(self):
        program = ((("x", 9, 8), ("y", 2, 0)), (("copy", (), (("y", ("x", 1)), ("x", 1))),), (), False)
        self.assertEqual(layouts.lay(program)[1], ((8, 0), (1, 1), (1, 0)))

    def test_worths_are_reckoned_in_the_room_ahead(self):
        program = ((("x", 3, 1), ("y", 3, 2)), (("swap", (), (("x", ("y", 0)), ("y", ("x", 0)))),), (), False)
        self.assertEqual(layouts.lay(program), ((((1,), (0,)), ((), ())), ((1, 2), (2, 1))))

    def test_tests_take_no_rest(self):
        def steps(sign, worth, first=2):
            return layouts.lay(((("x", 3, first),), (("go", (("x", sign, worth),), ()),), (), False))[0][0]
        self.assertEqual(steps("under", ("x", 1)), ((0,),))
        self.assertEqual(steps("is", 5), ((),))
        self.assertEqual(steps("not", 5), ((0,),))
        self.assertEqual(steps("is", ("x", 3)), ((),))
        self.assertEqual(steps("under", ("x", -8)), ((),))
        self.assertEqual(steps("under", 3), ((0,),))
        self.assertEqual(steps("under", 2), ((),))
        self.assertEqual(steps("is", 2), ((0,),))
        self.assertEqual(steps("not", 2), ((),))
        self.assertEqual(steps("under", ("x", -1), 0), ((),))

    def test_all_tests_of_a_command_must_hold(self):
        tests = (("x", "is", 0), ("x", "is", 1))
        self.assertEqual(layouts.lay(((("x", 2, 0),), (("go", tests, ()),), (), False))[0][0], ((),))

    def test_cells_that_are_not_put_hold_what_they_held(self):
        program = ((("x", 3, 1), ("y", 3, 2)), (("go", (), (("x", 0),)),), (), False)
        self.assertEqual(layouts.lay(program)[1], ((1, 2), (0, 2)))

    def test_no_commands(self):
        self.assertEqual(layouts.lay(((("x", 9, 7),), (), (), False)), ((((),), ((),)), ((7,),)))
        self.assertEqual(layouts.lay(((("x", 9, 7),), (), (), True)), ((((),), ((),)), ((7, -1),)))

    def test_keeps_the_command_that_came_last(self):
        program = ((("x", 2, 0),), (("stay", (), ()), ("flip", (), (("x", ("x", 1)),))), (), True)
        machine, rooms = layouts.lay(program)
        self.assertEqual(rooms, ((0, -1), (0, 0), (1, 1), (1, 0), (0, 1)))
        self.assertEqual(machine[0], ((1, 2), (1, 2), (3, 4), (3, 4), (1, 2)))

    def test_two_commands_that_lead_to_one_room_make_one_step(self):
        program = ((("x", 2, 0),), (("one", (), (("x", 1),)), ("other", (), (("x", 1),))), (), False)
        self.assertEqual(layouts.lay(program)[0][0], ((1,), (1,)))


class Marks(unittest.TestCase):
    def marks(self, rows, keeps=True):
        commands = (("up", (("x", "under", 2),), (("x", ("x", 1)),)), ("zero", (("x", "is", 2),), (("x", 0),)))
        return layouts.lay(((("x", 3, 0),), commands, (("m", rows),), keeps))

    def test_can(self):
        self.assertEqual(self.marks(((("can", "up"),),), False)[0][1], (("m",), ("m",), ()))
        self.assertEqual(self.marks(((("can", "zero"),),), False)[0][1], ((), (), ("m",)))

    def test_last(self):
        machine, rooms = self.marks(((("last", "zero"),),))
        self.assertEqual(rooms, ((0, -1), (1, 0), (2, 0), (0, 1)))
        self.assertEqual(machine[1], ((), (), (), ("m",)))
        self.assertEqual(self.marks(((("last", "up"),),))[0][1], ((), ("m",), ("m",), ()))

    def test_one_row_of_which_all_holds(self):
        self.assertEqual(self.marks(((("x", "is", 0), ("can", "up")), (("x", "is", 2),)), False)[0][1],
                         (("m",), (), ("m",)))
        self.assertEqual(self.marks(((("x", "is", 0), ("x", "is", 2)),), False)[0][1], ((), (), ()))

    def test_no_rows_and_rows_of_nothing(self):
        self.assertEqual(self.marks((), False)[0][1], ((), (), ()))
        self.assertEqual(self.marks(((),), False)[0][1], (("m",),) * 3)

    def test_names_rise_whatever_their_order_in_the_program(self):
        marks = (("b", ((),)), ("aa", ((),)), ("c", ()), ("a", ((),)))
        self.assertEqual(layouts.lay(((("x", 1, 0),), (), marks, False))[0][1], (("a", "aa", "b"),))


class Most(unittest.TestCase):
    def test_most_is_handed_in_by_its_name(self):
        with self.assertRaises(TypeError):
            layouts.lay(line(2), 40)

    def test_as_many_rooms_as_most_and_one_more(self):
        for many in (1, 2, 9, 10, 39, 40):
            self.assertEqual(len(layouts.lay(line(many), most=many)[1]), many)
            with self.assertRaises(TooGreat):
                layouts.lay(line(many + 1), most=many)

    def test_most_left_out_is_forty(self):
        self.assertEqual(len(layouts.lay(line(40))[1]), 40)
        with self.assertRaises(TooGreat):
            layouts.lay(line(41))

    def test_laying_ends_as_soon_as_there_is_one_room_too_many(self):
        cells = tuple((name, 9, 0) for name in "abcd")
        commands = tuple((name, (), ((name, (name, 1)),)) for name in "abcd")
        for most in (1, 2, 40):
            with self.assertRaises(TooGreat):
                helper.soon(layouts.lay, (cells, commands, (), True), most=most)
        self.assertIs(helper.soon(layouts.right_layout, (cells, commands, (), True), ()), False)

    def test_somewhat_beyond_the_bounds(self):
        self.assertEqual(len(layouts.lay(line(45), most=45)[1]), 45)
        with self.assertRaises(TooGreat):
            layouts.lay(line(1), most=0)


class Right(unittest.TestCase):
    program = ((("x", 3, 0),), (("up", (), (("x", ("x", 1)),)), ("stay", (("x", "is", 1),), ())),
               (("b", ((("x", "is", 1),),)), ("a", ((("x", "not", 0),),))), True)

    def test_the_told_layout(self):
        self.assertIs(layouts.right_layout(self.program, layouts.lay(self.program)), True)

    def test_one_step_name_room_or_number_changed(self):
        (steps, marks), rooms = layouts.lay(self.program)
        self.assertEqual(steps, ((1,), (2, 3), (4,), (2, 3), (1,)))
        self.assertEqual(marks, ((), ("a", "b"), ("a",), ("a", "b"), ()))
        for wrong in (
            (((*steps[:1], (2,), *steps[2:]), marks), rooms),
            (((*steps[:4], (1, 4)), marks), rooms),
            ((steps, (*marks[:1], ("a",), *marks[2:])), rooms),
            ((steps, (*marks[:1], ("a", "c"), *marks[2:])), rooms),
            ((steps, (("a",), *marks[1:])), rooms),
            ((steps, marks), (*rooms[:4], (0, 1))),
            ((steps, marks), rooms[:-1]),
            ((steps, marks), (*rooms, (2, 1))),
            ((steps, marks), rooms[::-1]),
            ((steps, marks), ((0, 0), *rooms[1:])),
        ):
            self.assertIs(layouts.right_layout(self.program, wrong), False)

    def test_anything_at_any_depth(self):
        told = layouts.lay(self.program)
        for thing in helper.changes(told):
            if repr(thing) != repr(told):
                self.assertIs(layouts.right_layout(self.program, thing), False, repr(thing)[:120])

    def test_true_stands_for_no_number(self):
        program = ((("x", 2, 1),), (("stay", (), ()),), (), False)
        self.assertIs(layouts.right_layout(program, ((((0,),), ((),)), ((1,),))), True)
        self.assertIs(layouts.right_layout(program, ((((False,),), ((),)), ((1,),))), False)
        self.assertIs(layouts.right_layout(program, ((((0,),), ((),)), ((True,),))), False)

    def test_of_a_program_with_more_than_forty_rooms_nothing_is(self):
        self.assertIs(layouts.right_layout(line(40), layouts.lay(line(40))), True)
        self.assertIs(layouts.right_layout(line(41), layouts.lay(line(41), most=41)), False)
        for thing in helper.anything():
            self.assertIs(layouts.right_layout(line(41), thing), False)


class ByChance(unittest.TestCase):
    def test_layouts_by_chance(self):
        laid = refused = 0
        for chance in helper.chances(1500):
            program = some_program(chance)
            self.assertIs(programs.check(program), True)
            told = layout_of(program)
            if told is None:
                refused += 1
                self.assertIsInstance(helper.refusal(layouts.lay, program), TooGreat)
                continue
            laid += 1
            self.assertEqual(layouts.lay(program), told)
            self.assertTrue(helper.is_plain(layouts.lay(program)))
            self.assertIs(machines.check(told[0]), True)
            self.assertIs(layouts.right_layout(program, told), True)
        self.assertGreater(laid, 500)
        self.assertGreater(refused, 5)


if __name__ == "__main__":
    unittest.main()
