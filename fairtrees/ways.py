"""Two ways to reckon where a goal may be reached and where a fair run may stay for ever."""

from fairtrees.bounds import FREE
from fairtrees.errors import NoWay
from fairtrees.machines import back_rows, bearers, bears
from fairtrees.parts import fair_parts, steps_inside
from fairtrees.sets import common, joined, set_of


class Way:
    """What a way of reckoning is asked; it does not reckon by itself."""

    def until(self, machine, within, goal):
        """Tell the set of those from which a walk through within leads to one of goal."""
        raise NoWay("a way without a reckoning of its own")

    def ever(self, machine, within, *, wishes=FREE):
        """Tell the set of those at which a fair run begins that stays within for ever."""
        raise NoWay("a way without a reckoning of its own")

    def unless(self, machine, within, goal, *, wishes=FREE):
        """Tell the set of those that until tells and of those that ever tells."""
        raise NoWay("a way without a reckoning of its own")


class Rounds(Way):
    """Goes round over all standings until nothing changes."""

    def until(self, machine, within, goal):
        """Tell the set of those from which a walk through within leads to one of goal."""
        told = {standing: True for standing in goal}
        many = -1
        while len(told) != many:
            many = len(told)
            for standing in within:
                if leads_into(machine, standing, told):
                    told[standing] = True
        return tuple(sorted(told))

    def ever(self, machine, within, *, wishes=FREE):
        """Tell the set of those at which a fair run begins that stays within for ever."""
        # Kept in the end are those that lead on to kept ones and, where they bear a when, to a kept bearer of its then.
        # So of the kept ones, a strong part that is never left has a step and meets each wish, and each leads to one.
        kept = within
        many = -1
        while len(kept) != many:
            many = len(kept)
            kept = leading_on(machine, kept)
            for when, then in wishes:
                meets = self.until(machine, kept, common(kept, bearers(machine, then)))
                kept = tuple([one for one in kept if one in meets or not bears(machine, one, when)])
        return self.until(machine, within, kept)

    def unless(self, machine, within, goal, *, wishes=FREE):
        """Tell the set of those that until tells and of those that ever tells."""
        return joined(self.until(machine, within, goal), self.ever(machine, within, wishes=wishes))


class Worklist(Way):
    """Goes by counts, by lists of what is still to be looked at, and by strong parts parted anew."""

    def until(self, machine, within, goal):
        """Tell the set of those from which a walk through within leads to one of goal."""
        back = back_rows(machine)
        inside = {standing: True for standing in within}
        told = {standing: True for standing in goal}
        waiting = list(goal)
        while waiting:
            standing = waiting.pop()
            for other in back[standing]:
                if other in inside and other not in told:
                    told[other] = True
                    waiting.append(other)
        return tuple(sorted(told))

    def ever(self, machine, within, *, wishes=FREE):
        """Tell the set of those at which a fair run begins that stays within for ever."""
        parts = fair_parts(machine, lasting(machine, within), wishes)
        return self.until(machine, within, set_of([standing for part in parts for standing in part]))

    def unless(self, machine, within, goal, *, wishes=FREE):
        """Tell the set of those that until tells and of those that ever tells."""
        return joined(self.until(machine, within, goal), self.ever(machine, within, wishes=wishes))


def leads_into(machine, standing, told):
    """Say whether a step leads from the standing to one that is told, as a key of a dict."""
    return any([other in told for other in machine[0][standing]])


def leading_on(machine, within):
    """Tell, by rounds, the set of those of within from which an endless run stays within."""
    kept = {standing: True for standing in within}
    many = -1
    while len(kept) != many:
        many = len(kept)
        kept = {standing: True for standing in kept if leads_into(machine, standing, kept)}
    return tuple(kept)


def lasting(machine, within):
    """Tell, by counts of the steps that are left, the set of those of within from which an endless run stays within."""
    leads = steps_inside(machine, within)
    counts = {standing: len(leads[standing]) for standing in within}
    back = back_rows(machine)
    waiting = [standing for standing in within if counts[standing] == 0]
    while waiting:
        standing = waiting.pop()
        for other in back[standing]:
            if other in counts:
                counts[other] -= 1
                if counts[other] == 0:
                    waiting.append(other)
    return tuple([standing for standing in within if counts[standing] > 0])
