"""Ranks for the entries of a side: how often a way of leaning passes each least row."""

from fairtrees.knots import knots
from fairtrees.masks import numbers_in
from fairtrees.sheets import is_point, least_rows, part_order, row_parts


def ranks_of(sheet, leans):
    """Tell for each place, a pair of a row and a standing, ranks by which its entry leans in the right way."""
    ranks = {place: () for place in leans}
    places = [[] for row in sheet]
    for place in leans:
        places[place[0]].append(place)
    for part in row_parts(sheet):
        if least_rows(sheet, part):
            rank_part(sheet, part, places, leans, ranks)
    return ranks


def rank_part(sheet, part, places, leans, ranks):
    """Put in the ranks of the places of one part."""
    # Ranks fall at points alone, so they are found for these, and each other place has the most of those ahead of it.
    points = [place for number in part if is_point(sheet[number]) for place in places[number]]
    ahead = points_ahead(sheet, part, places, leans, points)
    leads = [numbers_in(ahead[place]) for place in points]
    counts = {least: most_passed(points, leads, least) for least in least_rows(sheet, part)}
    known = {}
    for place in ahead:
        mask = ahead[place]
        if mask not in known:
            known[mask] = ranks_by(counts, numbers_in(mask))
        ranks[place] = known[mask]
    for number, place in enumerate(points):
        ranks[place] = ranks_by(counts, [number])


def points_ahead(sheet, part, places, leans, points):
    """Tell for each place of a part the mask of the places of points, by their order, on which it leans next."""
    bits = {place: 1 << number for number, place in enumerate(points)}
    ahead = {}
    for number in part_order(sheet, part):
        for place in places[number]:
            mask = 0
            for other in leans[place]:
                mask |= bits[other] if other in bits else ahead.get(other, 0)
            ahead[place] = mask
    return ahead


def most_passed(points, leads, least):
    """Tell for each of the points how often a way of leaning passes the least row ahead of a point further out."""
    # A point of lesser number is further out: there the counting ends.
    onward = {number: leads[number] if place[0] >= least else () for number, place in enumerate(points)}
    told = {}
    # No way of leaning passes the row again and again, so of a knot of several places none is of the row.
    for knot in knots(onward):
        most = max([told[other] for number in knot for other in onward[number] if other in told], default=0)
        for number in knot:
            told[number] = most + 1 if points[number][0] == least else most
    return told


def ranks_by(counts, numbers):
    """Tell the pairs (least row, many) of the most that one of these points has for each least row."""
    most = {least: max([counts[least][number] for number in numbers], default=0) for least in counts}
    return tuple([(least, most[least]) for least in most if most[least] > 0])
