"""The sets of a sheet, by games: one player shows that a row has a standing, the other one that it does not."""

from fairtrees.masks import Ground, numbers_in
from fairtrees.sheets import blocks_of, is_point, led_to, part_order, row_parts


def by_games(machine, sheet):
    """Tell for each row of the sheet its set."""
    won, choices = play(machine, sheet)
    return tuple([numbers_in(won[number]) for number in range(len(sheet))])


def play(machine, sheet):
    """Tell for each row the mask of where it is shown, and by (row, standing) what is chosen there at or and some."""
    ground = Ground(machine)
    won = {}
    choices = {}
    for part in row_parts(sheet):
        word, inner = sheet[part[0]]
        if word in ("mark", "bare"):
            mask = ground.borne(inner)
            won[part[0]] = mask if word == "mark" else ground.whole & ~mask
        else:
            won.update(Game(ground, sheet, part, choices).decide(won))
    return won, choices


class Game:
    """The game of one part: whoever shows moves at or and some, the other one at and and all."""

    def __init__(self, ground, sheet, part, choices):
        self.ground = ground
        self.rows = sheet
        self.part = part
        self.choices = choices
        self.blocks = blocks_of(sheet, part)
        self.order = part_order(sheet, part)
        self.backs = {number: [] for number in part}
        for number in part:
            for other in led_to(sheet[number]):
                if other in self.backs:
                    self.backs[other].append(number)

    def decide(self, won):
        """Tell for each row of the part the mask of where it is shown, by those of the rows outside of the part."""
        whole = self.ground.whole
        outside = [other for number in self.part for other in led_to(self.rows[number]) if other not in self.backs]
        rest = {number: whole for number in [*self.part, *outside]}
        shown = self.attract(rest, {number: won[number] for number in outside}, True)
        broken = self.attract(rest, {number: whole & ~won[number] for number in outside}, False)
        more = self.contest({one: whole & ~shown.get(one, 0) & ~broken.get(one, 0) for one in self.part}, 0)
        return {number: shown.get(number, 0) | more.get(number, 0) for number in self.part}

    def contest(self, rest, level):
        """Tell where it is shown, of a rest in which nobody is without a move and no points ahead of this level are."""
        if not any(list(rest.values())):
            return {}
        block = self.blocks[level]
        # Whoever is helped by coming to this block for ever wins all from where the other one cannot keep away.
        shows = self.rows[block[0]][0] == "greatest"
        lost = {}
        while True:
            near = self.attract(rest, {number: rest[number] for number in block}, shows)
            inner = less(rest, near)
            shown = self.contest(inner, level + 1)
            others = less(inner, shown) if shows else shown
            if not any(list(others.values())):
                return rest if shows else lost
            gone = self.attract(rest, others, not shows)
            rest = less(rest, gone)
            lost = {number: lost.get(number, 0) | gone.get(number, 0) for number in rest}

    def attract(self, rest, goal, shows):
        """Tell the masks of where the player who shows, or the other one, can bring the game to the goal, in rest."""
        told = {number: goal[number] for number in goal}
        due = {number: True for number in self.order}
        grown = True
        # By turns in this order a row is looked at behind those to which it leads, not once for each of them.
        while grown:
            grown = False
            for number in self.order:
                if due[number]:
                    due[number] = False
                    more = self.drawn(number, rest, told, shows) & rest[number] & ~told.get(number, 0)
                    if more:
                        grown = True
                        self.take(number, more, told, shows)
                        due.update({other: True for other in self.backs[number]})
        return told

    def take(self, number, more, told, shows):
        """Take these standings of a row into what is told and, for the player who shows, note the moves there."""
        if shows:
            self.choose(number, more, told)
        told[number] = told.get(number, 0) | more

    def drawn(self, number, rest, told, shows):
        """Tell the mask of where a row leads to what is told: by a move of the player, or by each of the other one."""
        word, inner = self.rows[number]
        ground = self.ground
        moves = (word in ("or", "some")) == shows
        if word in ("some", "all"):
            if moves:
                return ground.leading(told.get(inner, 0))
            return ground.whole & ~ground.leading(rest.get(inner, 0) & ~told.get(inner, 0))
        mask = 0
        # A point leaves nobody a choice.
        if moves or is_point(self.rows[number]):
            for other in led_to(self.rows[number]):
                mask |= told.get(other, 0)
            return mask
        for other in inner:
            mask |= rest.get(other, 0) & ~told.get(other, 0)
        return ground.whole & ~mask

    def choose(self, number, more, told):
        """Note for the standings of more by which move the row leads from there to what is told."""
        word, inner = self.rows[number]
        if word == "or":
            for other in inner:
                for standing in numbers_in(more & told.get(other, 0)):
                    self.choices[(number, standing)] = other
        elif word == "some":
            for standing in numbers_in(more):
                led = [other for other in self.ground.onward[standing] if told[inner] >> other & 1]
                self.choices[(number, standing)] = led[0]


def less(one, other):
    """Tell the masks of the one without those of the other."""
    return {number: one[number] & ~other.get(number, 0) for number in one}
