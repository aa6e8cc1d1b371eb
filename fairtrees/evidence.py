"""Evidence: ranks that fall to a goal or a fair ring for a yes, and for a no what shuts fair runs out."""

from fairtrees.bounds import FREE
from fairtrees.knots import is_round
from fairtrees.machines import back_rows, bears
from fairtrees.parts import fair_parts, failed_wish, not_bearing, ring_from, strong_parts
from fairtrees.runs import is_fair, right_run
from fairtrees.sets import set_of
from fairtrees.signs import is_number, is_number_from, is_tuple, is_tuple_of


def right_evidence(machine, within, goal, thing, *, wishes=FREE, ends=True):
    """Say of anything whether it is evidence for within and goal."""
    if not is_tuple_of(thing, 3, 3):
        return False
    ranks, rings, shuts = thing
    if not are_ranks(ranks, len(machine[0])):
        return False
    if not ends:
        return is_tuple_of(rings, 0, 0) and is_tuple_of(shuts, 0, 0) and do_fall(machine, within, goal, ranks)
    if not is_tuple(rings) or not all([is_fair_ring(machine, within, ring, wishes) for ring in rings]):
        return False
    firsts = set_of([*goal, *[standing for ring in rings for standing in ring]])
    return do_fall(machine, within, firsts, ranks) and do_shut(machine, within, ranks, shuts, wishes)


def are_ranks(thing, many):
    """Say of anything whether it is a tuple with None or a number from 0 on for each of so many standings."""
    return is_tuple_of(thing, many, many) and all([rank is None or is_from_0(rank) for rank in thing])


def is_from_0(thing):
    """Say of anything whether it is a number from 0 on."""
    return is_number(thing) and thing >= 0


def is_fair_ring(machine, within, thing, wishes):
    """Say of anything whether it is a ring of standings of within whose run is fair."""
    run = ((), thing)
    if not right_run(machine, run) or not all([standing in within for standing in thing]):
        return False
    return is_fair(machine, run, wishes=wishes)


def do_fall(machine, within, firsts, ranks):
    """Say whether just those of firsts have the rank 0, and the others fall to them or are closed off from them."""
    return all([is_right_rank(machine, within, firsts, ranks, standing) for standing in range(len(ranks))])


def is_right_rank(machine, within, firsts, ranks, standing):
    """Say whether the rank of one standing, or that it has none, is right beside those to which it leads."""
    rank = ranks[standing]
    if standing in firsts:
        return rank == 0
    # A rank 0 elsewhere is not right either: nothing is less.
    onward = [ranks[other] for other in machine[0][standing] if ranks[other] is not None]
    if rank is None:
        return standing not in within or len(onward) == 0
    return standing in within and any([other < rank for other in onward])


def do_shut(machine, within, ranks, thing, wishes):
    """Say of anything whether it shuts fair runs out of those of within that have no rank."""
    if not is_tuple_of(thing, len(ranks), len(ranks)):
        return False
    for standing, row in enumerate(thing):
        if standing in within and ranks[standing] is None:
            if not is_shut_row(row, len(wishes)):
                return False
        elif row is not None:
            return False
    pairs = [(one, other) for one, row in enumerate(thing) if row is not None for other in machine[0][one]]
    return all([thing[other] is None or does_sink(machine, thing, one, other, wishes) for one, other in pairs])


def is_shut_row(thing, many):
    """Say of anything whether it is a row of pairs (number, wish) where there are so many wishes."""
    if not is_tuple_of(thing, 1, many + 1) or not all([is_tuple_of(pair, 2, 2) for pair in thing]):
        return False
    return all([is_from_0(number) and is_number_from(wish, -1, many - 1) for number, wish in thing])


def does_sink(machine, rows, one, other, wishes):
    """Say whether a step from the one to the other leads to a lesser number, or stays where a wish is failed."""
    for (high, wish), (low, another) in zip(rows[one], rows[other]):
        if low < high:
            return True
        if low != high or another != wish or wish == -1:
            return False
        when, then = wishes[wish]
        if bears(machine, one, then) or bears(machine, other, then):
            return False
        if bears(machine, one, when) or bears(machine, other, when):
            return True
    # One of the rows has no next pair.
    return False


def evidence(machine, within, goal, *, wishes=FREE, ends=True):
    """Tell evidence for within and goal."""
    if not ends:
        return ranks_to(machine, within, goal), (), ()
    parts = fair_parts(machine, within, wishes)
    rings = tuple([ring_from(machine, part[0], part, wishes) for part in parts])
    ranks = ranks_to(machine, within, set_of([*goal, *[standing for ring in rings for standing in ring]]))
    shut = tuple([standing for standing in within if ranks[standing] is None])
    return ranks, rings, shuts_of(machine, shut, wishes)


def ranks_to(machine, within, firsts):
    """Tell for each standing how many steps through within lead to one of firsts, or None."""
    back = back_rows(machine)
    inside = {standing: True for standing in within}
    ranks = {standing: 0 for standing in firsts}
    waiting = list(firsts)
    looked = 0
    while looked < len(waiting):
        standing = waiting[looked]
        looked += 1
        for other in back[standing]:
            if other in inside and other not in ranks:
                ranks[other] = ranks[standing] + 1
                waiting.append(other)
    return tuple([ranks.get(standing) for standing in range(len(back))])


def shuts_of(machine, shut, wishes):
    """Tell for each standing of a set in which no fair run stays a row of pairs (number, wish), and None for others."""
    rows = {standing: [] for standing in shut}
    waiting = [shut]
    while waiting:
        whole = waiting.pop()
        for number, part in enumerate(strong_parts(machine, whole)):
            wish = failed_wish(machine, part, wishes) if is_round(machine[0], part) else -1
            for standing in part:
                rows[standing].append((number, wish))
            if wish != -1:
                waiting.append(not_bearing(machine, part, wishes[wish][0]))
    return tuple([tuple(rows[standing]) if standing in rows else None for standing in range(len(machine[0]))])
