"""Trees: why a row holds or fails at a standing, shown by runs and by nodes of the rows ahead."""

from fairtrees.bounds import FREE
from fairtrees.looks import look_of
from fairtrees.machines import bears
from fairtrees.papers import paper, ranked
from fairtrees.runs import is_fair, right_run, standing_at
from fairtrees.sayings import RUNS, parts_of
from fairtrees.signs import is_number_from, is_truth, is_tuple, is_tuple_of


def right_tree(machine, saying, sets, thing, *, wishes=FREE):
    """Say of anything whether it is a tree of the saying whose nodes are right for these sets."""
    if not is_tuple(thing) or len(thing) == 0:
        return False
    if not all([is_node(machine, saying, node, len(thing)) for node in thing]):
        return False
    return all([is_right(machine, saying, sets, thing, node, wishes) for node in thing])


def is_node(machine, saying, thing, many):
    """Say of anything whether it is built as a node of a tree of so many; its run is not looked at."""
    if not is_tuple_of(thing, 5, 5):
        return False
    row, standing, truth, run, kids = thing
    if not is_number_from(row, 0, len(saying) - 1) or not is_number_from(standing, 0, len(machine[0]) - 1):
        return False
    return is_truth(truth) and is_tuple(kids) and all([is_number_from(kid, 0, many - 1) for kid in kids])


def is_right(machine, saying, sets, tree, node, wishes):
    """Say whether the run and the kids of a node are as they have to be."""
    number, standing, truth, run, kids = node
    row = saying[number]
    told = [tree[kid][:3] for kid in kids]
    if not shows_run(row, truth):
        return run is None and told in plain_choices(machine, row, standing, truth, standing in sets[number])
    if not right_run(machine, run) or standing_at(run, 0) != standing or not is_fair(machine, run, wishes=wishes):
        return False
    return told in run_choices(row, run, len(kids))


def shows_run(row, truth):
    """Say whether a node of this row and truth has a run: what some promises is shown by one, and what breaks all."""
    return row[0] in RUNS and truth == (row[0] == "some")


def plain_choices(machine, row, standing, truth, listed):
    """Tell all rows of kids, told as (row, standing, truth), of which a node without a run has one to be right."""
    word = row[0]
    if word in ("yes", "no"):
        return [[]] if truth == (word == "yes") else []
    if word == "mark":
        return [[]] if truth == bears(machine, standing, row[1]) else []
    if word in RUNS:
        # A wall: it shows nothing and stands on what the sets say.
        return [[]] if truth == listed else []
    parts = parts_of(row)
    if word == "not":
        return [[(parts[0], standing, not truth)]]
    if word == "step":
        kids = [(parts[0], other, truth) for other in machine[0][standing]]
        return [[kid] for kid in kids] if truth else [kids]
    kids = [(part, standing, truth) for part in parts]
    return [kids] if truth == (word == "and") else [[kid] for kid in kids]


def run_choices(row, run, many):
    """Tell all rows of kids of which a node with this run, and with so many kids, has one to be right."""
    word, form = row[:2]
    truth = word == "some"
    first, last = parts_of(row)[0], parts_of(row)[-1]
    if form == "next":
        return [[(first, standing_at(run, 1), truth)]]
    unlike = unlike_ones(run)
    if form in ("once", "ever"):
        kids = [(first, standing, truth) for standing in unlike]
        return [kids] if truth == (form == "ever") else [[kid] for kid in kids]
    stay, leave = (first, [last]) if truth else (last, [first, last])
    told = [leaving(run, stay, leave, truth, many - len(leave))] if many >= len(leave) else []
    if truth == (form == "unless"):
        told.append([(stay, standing, truth) for standing in unlike])
    return told


def unlike_ones(run):
    """Tell the unlike standings of a run in the order in which they first come."""
    return list({standing: True for standing in run[0] + run[1]})


def leaving(run, stay, leave, truth, place):
    """Tell kids of the row stay for each place of the run ahead of this one, and for it those of the rows leave."""
    kids = [(stay, standing_at(run, ahead), truth) for ahead in range(place)]
    return kids + [(row, standing_at(run, place), truth) for row in leave]


def why(machine, saying, standing, *, wishes=FREE, row=None):
    """Tell a right tree for the sets of the saying; its node 0 is of the row, or the last one, and of the standing."""
    asked = len(saying) - 1 if row is None else row
    told = paper(machine, saying[:asked + 1], wishes=wishes)
    order = [(asked, standing)]
    numbers = {(asked, standing): 0}
    nodes = []
    while len(nodes) < len(order):
        number, at = order[len(nodes)]
        run, kids = shown(machine, saying[number], number, at, told)
        for kid in kids:
            if kid[:2] not in numbers:
                numbers[kid[:2]] = len(order)
                order.append(kid[:2])
        nodes.append((number, at, at in told[0][number], run, tuple([numbers[kid[:2]] for kid in kids])))
    return tuple(nodes)


def shown(machine, row, number, standing, told):
    """Tell the run, or None, and the kids by which a paper shows what is so of a row at a standing."""
    truth = standing in told[0][number]
    if not shows_run(row, truth):
        return None, first_so(plain_choices(machine, row, standing, truth, truth), told[0])
    if row[1] == "next":
        run = run_by_next(machine, row, standing, told)
        return run, first_so(run_choices(row, run, 1), told[0])
    run, many = run_by_look(machine, row, number, standing, told)
    return run, first_so(run_choices(row, run, many), told[0])


def first_so(choices, sets):
    """Tell the first row of kids each of which says what is so."""
    for kids in choices:
        if all([truth == (standing in sets[row]) for row, standing, truth in kids]):
            return kids
    return []


def run_by_next(machine, row, standing, told):
    """Tell a fair run whose next standing is one at which the row's part holds, for some, or fails, for all."""
    sets, fair, looks = told
    begins = ranked(fair)
    for other in machine[0][standing]:
        if other in begins and (row[0] == "some") == (other in sets[row[2]]):
            path, ring = run_down(machine, fair, other)
            return (standing, *path), ring
    return None


def run_by_look(machine, row, number, standing, told):
    """Tell a fair run by what was looked for, and how many kids lead along it to the goal; 0 where it stays within."""
    sets, fair, looks = told
    within, goal, ends = look_of(machine, row, sets, ranked(fair))
    walk = walk_down(machine, looks[number][0], standing)
    if walk[-1] not in goal:
        return run_down(machine, looks[number], standing), 0
    path, ring = run_down(machine, fair, walk[-1])
    many = len(walk) if row[0] == "some" else len(walk) + 1
    return (tuple(walk[:-1]) + path, ring), many


def walk_down(machine, ranks, standing):
    """Tell the walk from a standing that has a rank by falling ranks to one that has the rank 0."""
    walk = [standing]
    while ranks[walk[-1]] > 0:
        rank = ranks[walk[-1]]
        lesser = [other for other in machine[0][walk[-1]] if ranks[other] is not None and ranks[other] < rank]
        walk.append(lesser[0])
    return walk


def run_down(machine, told, standing):
    """Tell the run that falls by the ranks of evidence to one of its rings and goes round it."""
    ranks, rings, shuts = told
    walk = walk_down(machine, ranks, standing)
    for ring in rings:
        if walk[-1] in ring:
            at = ring.index(walk[-1])
            return tuple(walk[:-1]), ring[at:] + ring[:at]
    return None
