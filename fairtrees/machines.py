"""Machines and wishes: what they are, and what is asked of a machine's standings."""

from fairtrees.bounds import MOST, NAMES, WISHES
from fairtrees.errors import NoMachine, NoWishes
from fairtrees.knots import take_from
from fairtrees.sets import is_names, is_set
from fairtrees.signs import is_name, is_text, is_tuple_of


def check(thing):
    """Tell True of a machine; NoMachine of anything else."""
    if not is_machine(thing):
        raise NoMachine("no machine: a pair of steps and marks, a row for each of 1 to 40 standings")
    return True


def is_machine(thing):
    """Say of anything whether it is a machine."""
    if not is_tuple_of(thing, 2, 2):
        return False
    steps, marks = thing
    if not is_tuple_of(steps, 1, MOST):
        return False
    many = len(steps)
    if not is_tuple_of(marks, many, many):
        return False
    return all([is_set(row, many) for row in steps]) and all([is_names(row, NAMES) for row in marks])


def check_wishes(thing):
    """Tell True of wishes; NoWishes of anything else."""
    if not is_tuple_of(thing, 0, WISHES) or not all([is_wish(one) for one in thing]):
        raise NoWishes("no wishes: at most four pairs of a name, or the text without signs, and a name")
    return True


def is_wish(thing):
    """Say of anything whether it is a wish."""
    if not is_tuple_of(thing, 2, 2):
        return False
    when, then = thing
    # The kind of when is asked first: another kind of thing may call itself equal to a text.
    return (is_name(when) or is_text(when) and when == "") and is_name(then)


def standings_of(machine):
    """Tell the set of all standings of the machine."""
    return tuple(range(len(machine[0])))


def bears(machine, standing, name):
    """Say whether the standing bears the name; each bears the text without signs."""
    return name == "" or name in machine[1][standing]


def is_borne(machine, standings, name):
    """Say whether one of these standings bears the name."""
    return any([bears(machine, standing, name) for standing in standings])


def bearers(machine, name):
    """Tell the set of the standings that bear the name, or the text without signs."""
    return tuple([standing for standing in range(len(machine[1])) if bears(machine, standing, name)])


def behind(machine, standing):
    """Tell the set of the standings from which a step leads to this one."""
    return tuple([other for other, row in enumerate(machine[0]) if standing in row])


def back_rows(machine):
    """Tell for each standing the list of those from which a step leads to it."""
    rows = [[] for standing in machine[0]]
    for standing, row in enumerate(machine[0]):
        for other in row:
            rows[other].append(standing)
    return rows


def reached(machine, standing):
    """Tell the set of the standings to which steps lead from this one, itself with them."""
    return take_from(machine[0], standing, {})
