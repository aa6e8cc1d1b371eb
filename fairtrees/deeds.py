"""Deeds: what changes a machine by one step or one mark."""

from fairtrees.bounds import NAMES
from fairtrees.errors import Missing, NoDeed, TooGreat, Twice
from fairtrees.signs import is_name, is_number_from, is_text_of, is_tuple_of


def is_deed(machine, thing):
    """Say of anything whether it is a deed of the standings of this machine."""
    if not is_tuple_of(thing, 3, 3) or not is_text_of(thing[0], ("put", "take", "mark", "bare")):
        return False
    word, standing, what = thing
    last = len(machine[0]) - 1
    if not is_number_from(standing, 0, last):
        return False
    return is_name(what) if word in ("mark", "bare") else is_number_from(what, 0, last)


def after(machine, deed):
    """Tell the machine as it is behind the deed, which may be anything; what cannot be done is refused."""
    if not is_deed(machine, deed):
        raise NoDeed("no deed of this machine")
    word, standing, what = deed
    steps, marks = machine
    if word in ("put", "take"):
        return with_row(steps, standing, changed(steps[standing], what, word == "put")), marks
    row = changed(marks[standing], what, word == "mark")
    if len(row) > NAMES:
        raise TooGreat("the standing bears eight names already")
    return steps, with_row(marks, standing, row)


def changed(row, what, comes):
    """Tell a rising row with what comes or without what goes; Twice where it is there, Missing where it is not."""
    if comes and what in row:
        raise Twice("it is there already")
    if not comes and what not in row:
        raise Missing("it is not there")
    return tuple(sorted([*row, what])) if comes else tuple([one for one in row if one != what])


def with_row(rows, number, row):
    """Tell the rows with this one in its place."""
    return (*rows[:number], row, *rows[number + 1:])
