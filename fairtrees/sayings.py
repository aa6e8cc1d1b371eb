"""Sayings: rows that speak of standings, each built on rows ahead of it."""

from fairtrees.bounds import ROWS
from fairtrees.errors import NoSaying
from fairtrees.signs import is_name, is_number_from, is_text, is_tuple_of

RUNS = ("some", "all")

# How many numbers of rows stand behind the words of a row. Rows with mark have a name there instead.
PARTS = {
    ("yes",): 0,
    ("no",): 0,
    ("not",): 1,
    ("and",): 2,
    ("or",): 2,
    ("step",): 1,
    ("some", "next"): 1,
    ("some", "once"): 1,
    ("some", "ever"): 1,
    ("some", "until"): 2,
    ("some", "unless"): 2,
    ("all", "next"): 1,
    ("all", "once"): 1,
    ("all", "ever"): 1,
    ("all", "until"): 2,
    ("all", "unless"): 2,
}


def check(thing):
    """Tell True of a saying; NoSaying, with the first row that cannot stand there, of anything else."""
    if not is_tuple_of(thing, 1, ROWS):
        raise NoSaying("no saying: a tuple of 1 to 160 rows")
    for number, row in enumerate(thing):
        if not is_row(row, number):
            raise NoSaying(f"row {number} cannot stand there", number)
    return True


def is_row(thing, number):
    """Say of anything whether it can stand as the row of this number."""
    if not is_tuple_of(thing, 1, 4) or not is_text(thing[0]):
        return False
    if thing[0] == "mark":
        return len(thing) == 2 and is_name(thing[1])
    words = words_of(thing)
    # What is no text may be no key, so it is not looked up.
    if not all([is_text(word) for word in words]) or words not in PARTS:
        return False
    parts = parts_of(thing)
    return len(parts) == PARTS[words] and all([is_number_from(part, 0, number - 1) for part in parts])


def words_of(row):
    """Tell the words by which a row is told in a text, ahead of those of its parts."""
    if row[0] == "mark":
        return row[1:]
    return row[:2] if row[0] in RUNS else row[:1]


def parts_of(row):
    """Tell the numbers of the rows on which a row is built."""
    if row[0] == "mark":
        return ()
    return row[len(words_of(row)):]
