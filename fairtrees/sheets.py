"""Sheets: rows built on rows ahead and behind, with a least or greatest row in each round."""

from fairtrees.bounds import CHANGES, JOINED, POINTS, SHEET
from fairtrees.errors import NoSheet
from fairtrees.knots import ending_order, is_round, knots
from fairtrees.signs import is_name, is_number_from, is_text, is_tuple_of

OPPOSITES = {
    "mark": "bare",
    "bare": "mark",
    "and": "or",
    "or": "and",
    "some": "all",
    "all": "some",
    "least": "greatest",
    "greatest": "least",
}


def check(thing):
    """Tell True of a sheet; NoSheet of anything else."""
    if not is_tuple_of(thing, 1, SHEET) or not all([is_row(row, len(thing)) for row in thing]):
        raise NoSheet("no sheet: a tuple of 1 to 1000 rows, each a word with a name, a number of a row or numbers")
    plain = plain_leads(thing, list(range(len(thing))))
    if any([is_round(plain, knot) for knot in knots(plain)]):
        raise NoSheet("a round of rows has neither a least nor a greatest row")
    if not all([is_bounded(thing, part) for part in row_parts(thing)]):
        raise NoSheet("a part has more than twelve least and greatest rows, or their words change more than twice")
    return True


def is_row(thing, many):
    """Say of anything whether it can stand as a row of a sheet of so many."""
    if not is_tuple_of(thing, 2, 2) or not is_text(thing[0]) or thing[0] not in OPPOSITES:
        return False
    word, inner = thing
    if word in ("mark", "bare"):
        return is_name(inner)
    if word in ("and", "or"):
        return is_tuple_of(inner, 0, JOINED) and all([is_number_from(one, 0, many - 1) for one in inner])
    return is_number_from(inner, 0, many - 1)


def is_point(row):
    """Say whether the row is a least or greatest one."""
    return row[0] in ("least", "greatest")


def is_bounded(sheet, part):
    """Say whether a part has no more least and greatest rows, and changes of their words, than it may."""
    blocks = blocks_of(sheet, part)
    return len(blocks) <= CHANGES + 1 and sum([len(block) for block in blocks]) <= POINTS


def led_to(row):
    """Tell the numbers of the rows to which a row leads."""
    word, inner = row
    if word in ("mark", "bare"):
        return ()
    return inner if word in ("and", "or") else (inner,)


def row_parts(sheet):
    """Tell the parts of a sheet, each a rising tuple of numbers; no row leads to one of a later part."""
    return knots({number: led_to(row) for number, row in enumerate(sheet)})


def plain_leads(sheet, part):
    """Tell for each row of a part, but the least and greatest ones, to which other ones of them it leads."""
    plain = {number: True for number in part if not is_point(sheet[number])}
    return {number: [other for other in led_to(sheet[number]) if other in plain] for number in plain}


def part_order(sheet, part):
    """Tell the rows of a part, each behind those to which it leads, but the least and greatest ones last."""
    return [*ending_order(plain_leads(sheet, part)), *[number for number in part if is_point(sheet[number])]]


def blocks_of(sheet, part):
    """Tell the least and greatest rows of a part by their numbers, in lists: neighbours of one word in one list."""
    blocks = []
    for number in part:
        if is_point(sheet[number]):
            if not blocks or sheet[blocks[-1][0]][0] != sheet[number][0]:
                blocks.append([])
            blocks[-1].append(number)
    return blocks


def least_rows(sheet, part):
    """Tell the numbers of the least rows of a part, rising."""
    return tuple([number for number in part if sheet[number][0] == "least"])


def opposite(sheet):
    """Tell the sheet whose sets are the others of this one's."""
    return tuple([(OPPOSITES[word], inner) for word, inner in sheet])
