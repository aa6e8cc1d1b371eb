"""Sets of standings as numbers, a bit for each standing: so whole sets are joined and compared at once."""

from fairtrees.machines import bearers, standings_of


def mask_of(numbers):
    """Tell the mask of these numbers."""
    mask = 0
    for number in numbers:
        mask |= 1 << number
    return mask


def numbers_in(mask):
    """Tell the rising tuple of the numbers of a mask."""
    return tuple([number for number in range(mask.bit_length()) if mask >> number & 1])


class Ground:
    """A machine that is asked by masks."""

    def __init__(self, machine):
        self.whole = mask_of(standings_of(machine))
        self.onward = machine[0]
        self.known = {}
        self.bearing = {name: mask_of(bearers(machine, name)) for names in machine[1] for name in names}

    def borne(self, name):
        """Tell the mask of the standings that bear the name."""
        return self.bearing.get(name, 0)

    def leading(self, goal):
        """Tell the mask of the standings from which a step leads to one of the goal, which is a mask too."""
        # Long rounds of rows ask of the same few sets again and again.
        if goal not in self.known:
            steps = [mask_of(row) & goal for row in self.onward]
            self.known[goal] = mask_of([standing for standing, led in enumerate(steps) if led])
        return self.known[goal]

    def bound(self, goal):
        """Tell the mask of the standings from which no step leads to one that is not of the goal."""
        return self.whole & ~self.leading(self.whole & ~goal)
