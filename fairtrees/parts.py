"""Strong parts of sets of standings, and the fair runs in them."""

from fairtrees.bounds import FREE
from fairtrees.knots import is_round, knots
from fairtrees.machines import bearers, bears, is_borne
from fairtrees.sets import common, set_of


def strong_parts(machine, within):
    """Tell the strong parts of within, each a set; no step within leads from a part to a later one."""
    return knots(steps_inside(machine, within))


def steps_inside(machine, within):
    """Tell for each standing of within the list of those of within to which a step leads from it."""
    inside = {standing: True for standing in within}
    return {standing: [other for other in machine[0][standing] if other in inside] for standing in within}


def failed_wish(machine, part, wishes):
    """Tell the number of the first wish that the standings of a part together do not meet, or -1."""
    for number, (when, then) in enumerate(wishes):
        if is_borne(machine, part, when) and not is_borne(machine, part, then):
            return number
    return -1


def not_bearing(machine, part, name):
    """Tell the set of those of a part that do not bear the name."""
    return tuple([standing for standing in part if not bears(machine, standing, name)])


def fair_parts(machine, within, wishes):
    """Tell a list of strong parts in within, each with fair runs through all of it; no fair run stays beside them."""
    told = []
    waiting = [within]
    while waiting:
        whole = waiting.pop()
        for part in strong_parts(machine, whole):
            if is_round(machine[0], part):
                failed = failed_wish(machine, part, wishes)
                if failed == -1:
                    told.append(part)
                else:
                    waiting.append(not_bearing(machine, part, wishes[failed][0]))
    return told


def fair_run(machine, standing, within, *, wishes=FREE):
    """Tell a fair run, a pair (path, ring), that begins at the standing and stays within; None where there is none."""
    if standing not in within:
        return None
    parts = fair_parts(machine, within, wishes)
    goal = set_of([one for part in parts for one in part])
    walk = [standing]
    if standing not in goal:
        walk.extend(walk_to(machine, standing, within, goal))
    for part in parts:
        if walk[-1] in part:
            return tuple(walk[:-1]), ring_from(machine, walk[-1], part, wishes)
    return None


def ring_from(machine, start, part, wishes):
    """Tell a ring in a strong part that begins at start and meets each wish, all of which the part meets."""
    ring = [start]
    for when, then in wishes:
        if is_borne(machine, part, when) and not is_borne(machine, ring, then):
            ring.extend(walk_to(machine, ring[-1], part, common(part, bearers(machine, then))))
    ring.extend(walk_to(machine, ring[-1], part, (start,)))
    return tuple(ring[:-1])


def walk_to(machine, start, within, goal):
    """Tell a shortest walk of one step or more, all within, to one of goal: what comes behind start, or nothing."""
    leads = steps_inside(machine, within)
    ahead = {}
    waiting = [start]
    looked = 0
    while looked < len(waiting):
        standing = waiting[looked]
        looked += 1
        for other in leads[standing]:
            if other not in ahead:
                ahead[other] = standing
                if other in goal:
                    return walk_back(ahead, start, other)
                waiting.append(other)
    return []


def walk_back(ahead, start, end):
    """Tell the walk that leads from start, which is left out, to end, where ahead tells from where each was reached."""
    walk = [end]
    while ahead[walk[-1]] != start:
        walk.append(ahead[walk[-1]])
    walk.reverse()
    return walk
