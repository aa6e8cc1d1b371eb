"""Endless runs, told by a path and by a ring that is gone round behind it for ever."""

from fairtrees.bounds import FREE, MOST, NUMBERS
from fairtrees.errors import NoRun
from fairtrees.machines import is_borne
from fairtrees.signs import is_number_from, is_tuple, is_tuple_of


class Run:
    """An endless run in its least form, so that equal runs have equal fields."""

    def __init__(self, path, ring):
        if not is_told((path, ring)):
            raise NoRun("no path and ring: tuples of numbers from 0 to 39, at most 400, and the ring not empty")
        self.path, self.ring = least_form(path, ring)

    def at(self, place):
        """Tell the standing at a place from 0 on."""
        return standing_at((self.path, self.ring), place)

    def pair(self):
        """Tell the pair (path, ring) of the least form."""
        return self.path, self.ring

    def __eq__(self, other):
        return isinstance(other, Run) and self.path == other.path and self.ring == other.ring

    def __len__(self):
        return len(self.path + self.ring)

    def __str__(self):
        words = [str(standing) for standing in self.path]
        words.append(f"({numbers_text(self.ring)})")
        return " ".join(words)


def numbers_text(numbers):
    """Tell the text of some numbers, with single blanks between."""
    return " ".join([str(number) for number in numbers])


def least_form(path, ring):
    """Tell the shortest ring, and with it the shortest path, that tell the same standing at each place."""
    ring = least_ring(ring)
    left = len(path)
    # A path that ends as the ring does has gone into the ring already.
    while left > 0 and path[left - 1] == ring[-1]:
        ring = ring[-1:] + ring[:-1]
        left -= 1
    return path[:left], ring


def least_ring(ring):
    """Tell the shortest ring that, told over, is this one."""
    for many in range(1, len(ring)):
        if ring[:many] * (len(ring) // many) == ring:
            return ring[:many]
    return ring


def is_told(thing):
    """Say of anything whether it is a pair (path, ring) by which a run is told, on whichever machine."""
    if not is_tuple_of(thing, 2, 2):
        return False
    path, ring = thing
    if not is_tuple(path) or not is_tuple(ring):
        return False
    if len(ring) == 0 or len(path) + len(ring) > NUMBERS:
        return False
    return all([is_number_from(standing, 0, MOST - 1) for standing in path + ring])


def right_run(machine, thing):
    """Say of anything whether it is a run of the machine, told by a pair (path, ring)."""
    if not is_told(thing):
        return False
    path, ring = thing
    row = path + ring
    if max(row) >= len(machine[0]):
        return False
    # Behind the ring's last one comes its first one.
    return all([other in machine[0][standing] for standing, other in zip(row, row[1:] + ring[:1])])


def is_fair(machine, run, *, wishes=FREE):
    """Say of a right run whether it meets each wish."""
    # What is on the path alone does not come again.
    ring = run[1]
    return all([is_borne(machine, ring, then) or not is_borne(machine, ring, when) for when, then in wishes])


def standing_at(run, place):
    """Tell the standing of a run, a pair (path, ring), at a place from 0 on."""
    path, ring = run
    if place < len(path):
        return path[place]
    return ring[(place - len(path)) % len(ring)]


def holds_on(form, run):
    """Say whether a form over sets of standings holds on a run, a pair (path, ring)."""
    word, first, last = form[0], form[1], form[-1]
    if word == "next":
        return standing_at(run, 1) in first
    row = run[0] + run[1]
    if word == "once":
        return any([standing in first for standing in row])
    if word == "ever":
        return all([standing in first for standing in row])
    for standing in row:
        if standing in last:
            return True
        if standing not in first:
            return False
    # All standings have come, so the goal never does and the others stay for ever.
    return word == "unless"
