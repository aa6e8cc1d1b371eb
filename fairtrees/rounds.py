"""The sets of a sheet, by rounds: points begin as nothing or as everything and are carried on until nothing changes."""

from fairtrees.knots import ending_order
from fairtrees.masks import Ground, numbers_in
from fairtrees.sheets import blocks_of, plain_leads, row_parts


def by_rounds(machine, sheet):
    """Tell for each row of the sheet its set."""
    ground = Ground(machine)
    told = [0 for row in sheet]
    for part in row_parts(sheet):
        Nest(ground, sheet, part, told).go_round(())
    return tuple([numbers_in(mask) for mask in told])


class Nest:
    """One part of a sheet: its blocks of points, each gone round anew at each turn of those ahead of it."""

    def __init__(self, ground, sheet, part, told):
        self.ground = ground
        self.rows = sheet
        self.told = told
        self.blocks = blocks_of(sheet, part)
        # Rows come behind those to which they lead, so going through them once is enough.
        self.plain = ending_order(plain_leads(sheet, part))
        self.kept = {}

    def go_round(self, turns):
        """Find the points of the next block and of those behind it; turns says where those ahead of it are."""
        level = len(turns)
        if level == len(self.blocks):
            for number in self.plain:
                self.told[number] = mask_by(self.ground, self.rows[number], self.told)
            return
        block = self.blocks[level]
        # At the same turns of the blocks of the other word, those of its own word have only gone on their way since
        # it was here last; so what was found then is on its way too, and it goes on from there.
        place = (level, turns[::-2])
        start = self.ground.whole if self.rows[block[0]][0] == "greatest" else 0
        for number, mask in zip(block, self.kept.get(place, [start for number in block])):
            self.told[number] = mask
        turn = 0
        changed = True
        while changed:
            self.go_round((*turns, turn))
            turn += 1
            changed = self.carry(block)
        self.kept[place] = [self.told[number] for number in block]

    def carry(self, block):
        """Give each point of a block the set that its row has now, and say whether that is another one."""
        changed = False
        for number in block:
            mask = self.told[self.rows[number][1]]
            if mask != self.told[number]:
                self.told[number] = mask
                changed = True
        return changed


def mask_by(ground, row, told):
    """Tell the mask of a row that is no point by those of the rows to which it leads."""
    word, inner = row
    if word == "mark":
        return ground.borne(inner)
    if word == "bare":
        return ground.whole & ~ground.borne(inner)
    if word == "some":
        return ground.leading(told[inner])
    if word == "all":
        return ground.bound(told[inner])
    mask = ground.whole if word == "and" else 0
    for number in inner:
        mask = mask & told[number] if word == "and" else mask | told[number]
    return mask
