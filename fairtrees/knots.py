"""What leads to one another, whatever it is: standings by steps, rows by numbers, entries by leaning."""

from fairtrees.sets import set_of


def knots(leads):
    """Tell the rising tuples of those that lead to one another; none leads to one of a later tuple."""
    taken = {}
    told = []
    # Gone through backward first and onward then, the knots come with those first that lead to no other.
    for one in reversed(ending_order(turned(leads))):
        if one not in taken:
            told.append(take_from(leads, one, taken))
    return told


def turned(leads):
    """Tell the same leads, each led the other way."""
    told = {one: [] for one in leads}
    for one in leads:
        for other in leads[one]:
            told[other].append(one)
    return told


def ending_order(leads):
    """Tell all of them in the order in which they are done when each is done behind all that it leads to anew."""
    seen = set()
    order = []
    waiting = [(one, False) for one in leads]
    while waiting:
        one, done = waiting.pop()
        if done:
            order.append(one)
        elif one not in seen:
            seen.add(one)
            waiting.append((one, True))
            waiting.extend([(other, False) for other in leads[one]])
    return order


def take_from(leads, start, taken):
    """Tell the rising tuple of those that are reached from start by way of such as are not taken yet, and take them."""
    taken[start] = True
    part = []
    waiting = [start]
    while waiting:
        one = waiting.pop()
        part.append(one)
        for other in leads[one]:
            if other not in taken:
                taken[other] = True
                waiting.append(other)
    return set_of(part)


def is_round(leads, knot):
    """Say whether a knot has a round in it; one that stands alone has one where it leads to itself."""
    return len(knot) > 1 or knot[0] in leads[knot[0]]
