"""Telling where sayings hold."""

from fairtrees.bounds import FREE
from fairtrees.looks import found_by, look_of, needs_look, plain_set
from fairtrees.machines import standings_of
from fairtrees.ways import Worklist


def tell(machine, saying, *, wishes=FREE, way=None):
    """Tell for each row of the saying the set of the standings at which it holds."""
    by = Worklist() if way is None else way
    begins = fair(machine, wishes=wishes, way=by)
    sets = []
    for row in saying:
        if needs_look(row):
            within, goal, ends = look_of(machine, row, sets, begins)
            found = by.unless(machine, within, goal, wishes=wishes) if ends else by.until(machine, within, goal)
            sets.append(found_by(machine, row, found))
        else:
            sets.append(plain_set(machine, row, sets, begins))
    return tuple(sets)


def holds(machine, saying, standing, *, wishes=FREE, way=None):
    """Say whether the saying holds at the standing."""
    return standing in tell(machine, saying, wishes=wishes, way=way)[-1]


def fair(machine, *, wishes=FREE, way=None):
    """Tell the set of the standings at which a fair run begins."""
    by = Worklist() if way is None else way
    return by.ever(machine, standings_of(machine), wishes=wishes)
