"""Sides of a sheet: entries that lean on one another and show which standings rows have. Papers have two sides."""

from fairtrees.games import play
from fairtrees.machines import bears
from fairtrees.masks import numbers_in
from fairtrees.ranking import ranks_of
from fairtrees.sheets import is_point, least_rows, opposite, row_parts
from fairtrees.signs import is_number, is_number_from, is_tuple, is_tuple_of


def right_side(machine, sheet, thing):
    """Say of anything whether it is a side of the sheet."""
    homes = homes_of(sheet)
    if not is_tuple(thing) or not all([is_entry(machine, sheet, homes, entry) for entry in thing]):
        return False
    places = [entry[:2] for entry in thing]
    if not all([low < high for low, high in zip(places, places[1:])]):
        return False
    counts = {entry[:2]: {least: many for least, many in entry[3]} for entry in thing}
    return all([does_lean(machine, sheet, homes, counts, entry) for entry in thing])


def homes_of(sheet):
    """Tell for each row the number of its part, and the least rows of that part."""
    homes = {}
    for home, part in enumerate(row_parts(sheet)):
        leasts = least_rows(sheet, part)
        for number in part:
            homes[number] = (home, leasts)
    return homes


def is_entry(machine, sheet, homes, thing):
    """Say of anything whether it is built as an entry; what it leans on is not looked at."""
    if not is_tuple_of(thing, 4, 4):
        return False
    number, standing, choice, ranks = thing
    if not is_number_from(number, 0, len(sheet) - 1) or not is_number_from(standing, 0, len(machine[0]) - 1):
        return False
    word, inner = sheet[number]
    if word in ("mark", "bare") and bears(machine, standing, inner) != (word == "mark"):
        return False
    return is_choice(machine, sheet[number], standing, choice) and are_ranks(ranks, homes[number][1])


def is_choice(machine, row, standing, thing):
    """Say of anything whether it can be chosen at the row and the standing: -1 where nothing is to be chosen."""
    if not is_number(thing):
        return False
    word, inner = row
    if word == "or":
        return thing in inner
    if word == "some":
        return thing in machine[0][standing]
    return thing == -1


def are_ranks(thing, leasts):
    """Say of anything whether it is a tuple of pairs of one of these least rows, rising, and a number from 1 on."""
    if not is_tuple(thing) or not all([is_tuple_of(pair, 2, 2) for pair in thing]):
        return False
    if not all([is_number(least) and least in leasts and is_number(many) and many >= 1 for least, many in thing]):
        return False
    return all([low[0] < high[0] for low, high in zip(thing, thing[1:])])


def leans_of(machine, sheet, number, standing, choice):
    """Tell the places, pairs of a row and a standing, on whose entries an entry leans."""
    word, inner = sheet[number]
    if word in ("mark", "bare"):
        return []
    if word == "and":
        return [(other, standing) for other in inner]
    if word == "or":
        return [(choice, standing)]
    if word == "some":
        return [(inner, choice)]
    if word == "all":
        return [(inner, other) for other in machine[0][standing]]
    return [(inner, standing)]


def does_lean(machine, sheet, homes, counts, entry):
    """Say whether the entries on which an entry leans are there, with ranks as they have to be in its own part."""
    number, standing, choice, ranks = entry
    for place in leans_of(machine, sheet, number, standing, choice):
        if place not in counts:
            return False
        if homes[place[0]][0] == homes[number][0] and not does_fall(sheet, number, counts[entry[:2]], counts[place]):
            return False
    return True


def does_fall(sheet, number, counts, others):
    """Say whether the counts of an entry of this row let it lean on an entry of the same part that has others."""
    point = is_point(sheet[number])
    for least in others:
        # A point of lesser number is further out: what is counted within it begins anew there.
        if not (point and number < least) and counts.get(least, 0) < others[least]:
            return False
    return sheet[number][0] != "least" or counts.get(number, 0) > others.get(number, 0)


def right_sheet_paper(machine, sheet, thing):
    """Say of anything whether it is a paper of the sheet: a side of it, and one of its opposite for all the rest."""
    if not is_tuple_of(thing, 2, 2):
        return False
    side, other = thing
    if not right_side(machine, sheet, side) or not right_side(machine, opposite(sheet), other):
        return False
    places = sorted([entry[:2] for entry in [*side, *other]])
    return places == [(number, standing) for number in range(len(sheet)) for standing in range(len(machine[0]))]


def sheet_paper(machine, sheet):
    """Tell a paper of the sheet."""
    return side_of(machine, sheet), side_of(machine, opposite(sheet))


def side_of(machine, sheet):
    """Tell a side with an entry for each row and each standing that it has."""
    won, chosen = play(machine, sheet)
    choices = {}
    leans = {}
    for number, row in enumerate(sheet):
        for standing in numbers_in(won[number]):
            choice = chosen[(number, standing)] if row[0] in ("or", "some") else -1
            choices[(number, standing)] = choice
            leans[(number, standing)] = leans_of(machine, sheet, number, standing, choice)
    ranks = ranks_of(sheet, leans)
    return tuple([(*place, choices[place], ranks[place]) for place in choices])
