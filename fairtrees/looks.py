"""What a row says by the rows ahead of it: its standings at once, or what is to be looked for."""

from fairtrees.machines import bearers, standings_of
from fairtrees.sayings import RUNS, parts_of
from fairtrees.sets import common, joined, without


def needs_look(row):
    """Say whether the row is one of runs, but not with next, so that its standings have to be looked for."""
    return row[0] in RUNS and row[1] != "next"


def look_of(machine, row, sets, fair):
    """Tell within, goal and ends by which such a row is looked for: what holds for some, what breaks it for all."""
    word, form = row[:2]
    parts = parts_of(row)
    first, last = sets[parts[0]], sets[parts[-1]]
    everywhere = standings_of(machine)
    if word == "some":
        if form == "once":
            return everywhere, common(fair, first), False
        if form == "ever":
            return first, (), True
        return first, common(fair, last), form == "unless"
    if form == "once":
        return without(everywhere, first), (), True
    if form == "ever":
        return everywhere, without(fair, first), False
    return without(everywhere, last), without(fair, joined(first, last)), form == "until"


def found_by(machine, row, found):
    """Tell the set of such a row where these standings are found."""
    return found if row[0] == "some" else without(standings_of(machine), found)


def plain_set(machine, row, sets, fair):
    """Tell the set of a row that needs no look, by the sets of the rows ahead and by where fair runs begin."""
    word = row[0]
    everywhere = standings_of(machine)
    if word == "mark":
        return bearers(machine, row[1])
    if word == "yes":
        return everywhere
    if word == "no":
        return ()
    parts = parts_of(row)
    first, last = sets[parts[0]], sets[parts[-1]]
    if word == "not":
        return without(everywhere, first)
    if word == "and":
        return common(first, last)
    if word == "or":
        return joined(first, last)
    if word == "step":
        return leading_to(machine, first)
    if word == "some":
        return leading_to(machine, common(fair, first))
    return without(everywhere, leading_to(machine, without(fair, first)))


def leading_to(machine, goal):
    """Tell the set of the standings from which a step leads to one of goal."""
    return tuple([one for one, row in enumerate(machine[0]) if any([other in goal for other in row])])
