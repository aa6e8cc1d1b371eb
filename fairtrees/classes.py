"""Classes of standings that no saying parts, the cuts that find them, and the machine of the classes."""

from fairtrees.errors import NoPaper
from fairtrees.machines import bears
from fairtrees.sets import set_of
from fairtrees.signs import is_name, is_number, is_number_from, is_tuple, is_tuple_of


def classes(machine):
    """Tell a classes paper of the machine, a pair (of, cuts)."""
    blocks = first_blocks(machine)
    cuts = []
    cut = next_cut(machine, blocks)
    while cut is not None:
        cuts.append(cut)
        blocks = cut_up(machine, blocks, cut)
        cut = next_cut(machine, blocks)
    return row_of(blocks), tuple(cuts)


def first_blocks(machine):
    """Tell the blocks ahead of all cuts, as a dict from the least standing of each to its standings."""
    return {0: tuple(range(len(machine[0])))}


def next_cut(machine, blocks):
    """Tell a cut that parts one of the blocks in two, or None where there is none."""
    for least in blocks:
        block = blocks[least]
        names = [name for standing in block for name in machine[1][standing]]
        for by in [*names, *blocks]:
            if len(parted(machine, blocks, block, by)) == 2:
                return least, by
    return None


def parted(machine, blocks, block, by):
    """Tell those of a block to which by belongs, and those to which it does not, each where there is one."""
    yes = tuple([standing for standing in block if belongs(machine, blocks, standing, by)])
    no = tuple([standing for standing in block if standing not in yes])
    return [part for part in (yes, no) if len(part) > 0]


def belongs(machine, blocks, standing, by):
    """Say whether the standing bears the name or, where by is the least one of a block, a step leads to that block."""
    if isinstance(by, str):
        return bears(machine, standing, by)
    return any([other in blocks[by] for other in machine[0][standing]])


def cut_up(machine, blocks, cut):
    """Tell the blocks behind a cut."""
    least, by = cut
    told = {one: blocks[one] for one in blocks}
    for part in parted(machine, blocks, blocks[least], by):
        told[part[0]] = part
    return told


def row_of(blocks):
    """Tell the row of classes whose classes are just the blocks."""
    homes = {standing: home for home, least in enumerate(sorted(blocks)) for standing in blocks[least]}
    return tuple([homes[standing] for standing in sorted(homes)])


def right_classes(machine, thing):
    """Say of anything whether it is a classes paper of the machine."""
    if not is_tuple_of(thing, 2, 2):
        return False
    row, cuts = thing
    if not is_steady(machine, row) or not is_tuple(cuts):
        return False
    blocks = first_blocks(machine)
    for cut in cuts:
        if not is_cut(blocks, cut) or len(parted(machine, blocks, blocks[cut[0]], cut[1])) < 2:
            return False
        blocks = cut_up(machine, blocks, cut)
    return row == row_of(blocks)


def is_cut(blocks, thing):
    """Say of anything whether it is built as a cut of one of the blocks; whether it parts anything is not looked at."""
    if not is_tuple_of(thing, 2, 2):
        return False
    least, by = thing
    return is_number(least) and least in blocks and (is_name(by) or is_number(by) and by in blocks)


def is_steady(machine, thing):
    """Say of anything whether it is a steady row of classes of the machine."""
    many = len(machine[0])
    if not is_tuple_of(thing, many, many):
        return False
    firsts = []
    for standing, home in enumerate(thing):
        if not is_number_from(home, 0, len(firsts)):
            return False
        if home == len(firsts):
            firsts.append(standing)
    likes = [(machine[1][standing], led_to(machine, thing, standing)) for standing in range(many)]
    return all([likes[standing] == likes[firsts[home]] for standing, home in enumerate(thing)])


def led_to(machine, row, standing):
    """Tell the set of the classes to which steps lead from the standing."""
    return set_of([row[other] for other in machine[0][standing]])


def alike(machine, one, other):
    """Say whether two standings are alike."""
    row = classes(machine)[0]
    return row[one] == row[other]


def quotient(machine, row):
    """Tell the machine whose standings are the classes; NoPaper where the row, which may be anything, is not steady."""
    if not is_steady(machine, row):
        raise NoPaper("no steady row of classes of this machine")
    firsts = [row.index(home) for home in range(max(row) + 1)]
    return tuple([led_to(machine, row, one) for one in firsts]), tuple([machine[1][one] for one in firsts])
