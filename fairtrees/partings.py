"""Sayings that hold at the standings of one class alone."""

from fairtrees.classes import alike, belongs, classes, cut_up, first_blocks
from fairtrees.errors import AreAlike


def saying_of(machine, standing):
    """Tell a saying that holds at just the standings that are alike to this one."""
    row, cuts = classes(machine)
    blocks = first_blocks(machine)
    rows = [("yes",)]
    # For the least standing of each block, the number of a row that holds at the standings of that block alone.
    numbers = {0: 0}
    for cut in cuts:
        least, by = cut
        yes, no = write_cut(rows, numbers, least, by)
        after = cut_up(machine, blocks, cut)
        for one in after:
            if one not in blocks or one == least:
                numbers[one] = yes if belongs(machine, blocks, one, by) else no
        blocks = after
    return tuple(rows[:numbers[row.index(row[standing])] + 1])


def write_cut(rows, numbers, least, by):
    """Put in the rows of a cut, and tell the numbers of those that hold on its two sides."""
    whole = numbers[least]
    first = len(rows)
    rows.append(("mark", by) if isinstance(by, str) else ("step", numbers[by]))
    rows.append(("and", whole, first))
    rows.append(("not", first))
    rows.append(("and", whole, first + 2))
    return first + 1, first + 3


def parting(machine, one, other):
    """Tell a saying that holds at the one standing and not at the other; AreAlike where they are alike."""
    if alike(machine, one, other):
        raise AreAlike("alike standings are parted by no saying")
    return saying_of(machine, one)
