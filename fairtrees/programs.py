"""Programs: cells, commands and marks from which a machine is laid out."""

from fairtrees.errors import NoProgram
from fairtrees.signs import is_name, is_number_from, is_text_of, is_truth, is_tuple_of

TESTED = ("is", "not", "under")


def check(thing):
    """Tell True of a program; NoProgram of anything else."""
    if not is_program(thing):
        raise NoProgram("no program: cells, commands, marks, and whether the last command is kept")
    return True


def is_program(thing):
    """Say of anything whether it is a program."""
    if not is_tuple_of(thing, 4, 4):
        return False
    cells, commands, marks, keeps = thing
    if not is_truth(keeps) or not are_cells(cells):
        return False
    places = names_of(cells)
    if not are_commands(commands, places):
        return False
    asked = ("can", "last") if keeps else ("can",)
    return are_marks(marks, places, names_of(commands), asked)


def names_of(things):
    """Tell the names of cells, of commands or of marks, in order."""
    return tuple([one[0] for one in things])


def are_unlike(names):
    """Say whether no name stands there twice."""
    return len(set(names)) == len(names)


def are_cells(thing):
    """Say of anything whether it is the cells of a program."""
    return is_tuple_of(thing, 1, 4) and all([is_cell(one) for one in thing]) and are_unlike(names_of(thing))


def is_cell(thing):
    """Say of anything whether it is a cell."""
    if not is_tuple_of(thing, 3, 3):
        return False
    name, size, first = thing
    return is_name(name) and is_number_from(size, 1, 9) and is_number_from(first, 0, size - 1)


def are_commands(thing, places):
    """Say of anything whether it is the commands of a program with cells of these names."""
    if not is_tuple_of(thing, 0, 8) or not all([is_command(one, places) for one in thing]):
        return False
    return are_unlike(names_of(thing))


def is_command(thing, places):
    """Say of anything whether it is a command over cells of these names."""
    if not is_tuple_of(thing, 3, 3):
        return False
    name, tests, puts = thing
    if not is_name(name) or not is_tuple_of(tests, 0, 4) or not is_tuple_of(puts, 0, 4):
        return False
    if not all([is_test(one, places) for one in tests]) or not all([is_put(one, places) for one in puts]):
        return False
    return are_unlike(names_of(puts))


def is_test(thing, places):
    """Say of anything whether it is a test of one of these cells."""
    if not is_tuple_of(thing, 3, 3):
        return False
    return is_text_of(thing[0], places) and is_text_of(thing[1], TESTED) and is_worth(thing[2], places)


def is_put(thing, places):
    """Say of anything whether it puts a worth into one of these cells."""
    return is_tuple_of(thing, 2, 2) and is_text_of(thing[0], places) and is_worth(thing[1], places)


def is_worth(thing, places):
    """Say of anything whether it is a worth: a number, or one of these cells and a shift."""
    if is_number_from(thing, 0, 8):
        return True
    return is_tuple_of(thing, 2, 2) and is_text_of(thing[0], places) and is_number_from(thing[1], -8, 8)


def are_marks(thing, places, called, asked):
    """Say of anything whether it is the marks of a program with these cells, commands and words to ask by."""
    if not is_tuple_of(thing, 0, 8) or not all([is_mark(one, places, called, asked) for one in thing]):
        return False
    return are_unlike(names_of(thing))


def is_mark(thing, places, called, asked):
    """Say of anything whether it is a mark: a name, and rows of which one is to hold wholly."""
    if not is_tuple_of(thing, 2, 2):
        return False
    name, rows = thing
    if not is_name(name) or not is_tuple_of(rows, 0, 4) or not all([is_tuple_of(row, 0, 4) for row in rows]):
        return False
    return all([is_test(one, places) or is_asking(one, called, asked) for row in rows for one in row])


def is_asking(thing, called, asked):
    """Say of anything whether it asks, by one of the words asked, for one of the commands called so."""
    return is_tuple_of(thing, 2, 2) and is_text_of(thing[0], asked) and is_text_of(thing[1], called)
