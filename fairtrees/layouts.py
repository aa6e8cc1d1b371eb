"""Layouts: the machine of a program, and the rooms for which its standings stand."""

from fairtrees.bounds import MOST
from fairtrees.errors import TooGreat
from fairtrees.sets import set_of
from fairtrees.signs import is_tuple, same


def lay(program, *, most=MOST):
    """Tell the layout of a program, a pair (machine, rooms); TooGreat where it has more than most rooms."""
    rooms = []
    number_of(rooms, first_room(program), most)
    steps = []
    marks = []
    while len(steps) < len(rooms):
        room = rooms[len(steps)]
        leads = []
        for other in rooms_next(program, room):
            leads.append(number_of(rooms, other, most))
        steps.append(set_of(leads))
        marks.append(names_at(program, room))
    return (tuple(steps), tuple(marks)), tuple(rooms)


def right_layout(program, thing):
    """Say of anything whether it is the layout of the program."""
    try:
        told = lay(program)
    except TooGreat:
        return False
    return same(thing, told)


def number_of(rooms, room, most):
    """Tell the number of a room; one that is new takes the next number, if there may be one."""
    if room not in rooms:
        if len(rooms) >= most:
            raise TooGreat("the program has more rooms than are asked for")
        rooms.append(room)
    return rooms.index(room)


def first_room(program):
    """Tell the room in which each cell holds its first and no command came yet."""
    firsts = tuple([first for name, size, first in program[0]])
    return (*firsts, -1) if program[3] else firsts


def rooms_next(program, room):
    """Tell the rooms to which the commands that can come lead, in the order of the commands."""
    held = held_in(program, room)
    told = []
    for number, command in enumerate(program[1]):
        if can_come(command, held):
            told.append(room_behind(program, number, held))
    return told


def room_behind(program, number, held):
    """Tell the room to which the command of this number leads where the cells hold this."""
    puts = dict(program[1][number][2])
    told = []
    for name, size, first in program[0]:
        told.append(worth_of(puts[name], held) % size if name in puts else held[name])
    return (*told, number) if program[3] else tuple(told)


def held_in(program, room):
    """Tell what each cell holds in a room, by the cells' names."""
    return {cell[0]: worth for cell, worth in zip(program[0], room)}


def worth_of(worth, held):
    """Tell the number that a worth is where the cells hold this."""
    if is_tuple(worth):
        return held[worth[0]] + worth[1]
    return worth


def can_come(command, held):
    """Say whether all tests of the command hold where the cells hold this."""
    return all([does_hold(test, held) for test in command[1]])


def does_hold(test, held):
    """Say whether a test holds where the cells hold this."""
    name, sign, worth = test
    other = worth_of(worth, held)
    if sign == "is":
        return held[name] == other
    if sign == "not":
        return held[name] != other
    return held[name] < other


def names_at(program, room):
    """Tell the names that a room bears, rising."""
    return tuple(sorted([name for name, rows in program[2] if any([is_met(program, row, room) for row in rows])]))


def is_met(program, row, room):
    """Say whether all things of a mark's row hold in a room."""
    return all([is_so(program, thing, room) for thing in row])


def is_so(program, thing, room):
    """Say whether one thing of a mark's row holds in a room: a test, or what it asks of a command."""
    held = held_in(program, room)
    if len(thing) == 3:
        return does_hold(thing, held)
    word, name = thing
    number = [command[0] for command in program[1]].index(name)
    if word == "can":
        return can_come(program[1][number], held)
    return room[-1] == number
