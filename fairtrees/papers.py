"""Papers: the standings of each row of a saying, with evidence for them."""

from fairtrees.bounds import FREE
from fairtrees.evidence import evidence, right_evidence
from fairtrees.looks import found_by, look_of, needs_look, plain_set
from fairtrees.machines import standings_of
from fairtrees.sets import is_set
from fairtrees.signs import is_tuple_of


def paper(machine, saying, *, wishes=FREE):
    """Tell a paper of the saying, a triple (sets, fair, looks)."""
    fair = evidence(machine, standings_of(machine), (), wishes=wishes)
    begins = ranked(fair)
    sets = []
    looks = []
    for row in saying:
        if needs_look(row):
            within, goal, ends = look_of(machine, row, sets, begins)
            looks.append(evidence(machine, within, goal, wishes=wishes, ends=ends))
            sets.append(found_by(machine, row, ranked(looks[-1])))
        else:
            looks.append(None)
            sets.append(plain_set(machine, row, sets, begins))
    return tuple(sets), fair, tuple(looks)


def ranked(told):
    """Tell the set of the standings that have a rank in evidence."""
    return tuple([standing for standing, rank in enumerate(told[0]) if rank is not None])


def right_paper(machine, saying, thing, *, wishes=FREE):
    """Say of anything whether it is a paper of the saying."""
    if not is_tuple_of(thing, 3, 3):
        return False
    sets, fair, looks = thing
    rows = len(saying)
    if not is_tuple_of(sets, rows, rows) or not is_tuple_of(looks, rows, rows):
        return False
    if not all([is_set(one, len(machine[0])) for one in sets]):
        return False
    if not right_evidence(machine, standings_of(machine), (), fair, wishes=wishes):
        return False
    begins = ranked(fair)
    return all([fits(machine, row, sets, begins, told, look, wishes) for row, told, look in zip(saying, sets, looks)])


def fits(machine, row, sets, begins, told, look, wishes):
    """Say whether the set told of a row, and the look of it, which may be anything, fit the sets of the rows ahead."""
    if not needs_look(row):
        return look is None and told == plain_set(machine, row, sets, begins)
    within, goal, ends = look_of(machine, row, sets, begins)
    if not right_evidence(machine, within, goal, look, wishes=wishes, ends=ends):
        return False
    return told == found_by(machine, row, ranked(look))
