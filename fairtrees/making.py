"""Sheets made of sayings: what runs do, told by least and greatest rows."""

from fairtrees.bounds import FREE, MADE_ROWS, MADE_WISHES
from fairtrees.errors import TooGreat
from fairtrees.knots import take_from
from fairtrees.sayings import parts_of
from fairtrees.sheets import led_to, opposite


def sheet_of(saying, *, wishes=FREE):
    """Tell a sheet whose row 0 has, at each machine, the standings of the saying under these wishes."""
    if len(saying) > MADE_ROWS or len(wishes) > MADE_WISHES:
        raise TooGreat("sheets are made of sayings of at most six rows, and of at most two wishes")
    draft = Draft()
    first = draft.write("and", ())
    every = draft.write("and", ())
    fair = found_row(draft, every, ~every, True, wishes)
    rows = []
    for row in saying:
        rows.append(row_for(draft, row, [rows[part] for part in parts_of(row)], every, fair, wishes))
    draft.close(first, (rows[-1],))
    return needed(draft.both_ways())


class Draft:
    """A sheet in the making; ~i stands for the opposite of its row i."""

    def __init__(self):
        self.rows = []

    def write(self, word, inner):
        """Put in a row, and tell its number."""
        self.rows.append((word, inner))
        return len(self.rows) - 1

    def close(self, number, inner):
        """Let a row lead on to what was put in behind it."""
        self.rows[number] = (self.rows[number][0], inner)

    def both_ways(self):
        """Tell the rows and behind them the opposite of each, as one sheet."""
        many = len(self.rows)
        plain = [(word, with_numbers(inner, many, False)) for word, inner in self.rows]
        others = [(word, with_numbers(inner, many, True)) for word, inner in self.rows]
        return (*plain, *opposite(others))


def with_numbers(inner, many, turned):
    """Tell what stands in a row of a draft of so many, with numbers from 0 on, those of the opposites if turned."""
    if isinstance(inner, str):
        return inner
    if isinstance(inner, tuple):
        return tuple([with_numbers(one, many, turned) for one in inner])
    number = ~inner if turned else inner
    return number if number >= 0 else many + ~number


def needed(sheet):
    """Tell the rows to which row 0 leads, numbered anew in their order; so points stay as far out as they were."""
    leads = [led_to(row) for row in sheet]
    places = {number: place for place, number in enumerate(take_from(leads, 0, {}))}
    return tuple([moved(sheet[number], places) for number in places])


def moved(row, places):
    """Tell a row with the places of the numbers in it."""
    word, inner = row
    if word in ("mark", "bare"):
        return row
    return word, tuple([places[one] for one in inner]) if word in ("and", "or") else places[inner]


def row_for(draft, row, parts, every, fair, wishes):
    """Tell the number of a row that has the standings of a row of a saying, whose parts have these numbers."""
    word = row[0]
    if word == "mark":
        return draft.write("mark", row[1])
    if word in ("yes", "no"):
        return every if word == "yes" else ~every
    if word == "not":
        return ~parts[0]
    if word in ("and", "or"):
        return draft.write(word, tuple(parts))
    if word == "step":
        return draft.write("some", parts[0])
    # For all, what breaks it is looked for, as the opposite of a row with some is.
    found = run_row(draft, row, parts, every, fair, wishes)
    return found if word == "some" else ~found


def run_row(draft, row, parts, every, fair, wishes):
    """Tell the number of a row that has the standings where a row with some holds, or where one with all fails."""
    word, form = row[:2]
    first, last = parts[0], parts[-1]
    if word == "all":
        first, last = ~first, ~last
    if form == "next":
        return draft.write("some", draft.write("and", (fair, first)))
    if form == ("once" if word == "some" else "ever"):
        return found_row(draft, every, draft.write("and", (fair, first)), False, wishes)
    if form in ("once", "ever"):
        return found_row(draft, first, ~every, True, wishes)
    if word == "some":
        return found_row(draft, first, draft.write("and", (fair, last)), form == "unless", wishes)
    return found_row(draft, last, draft.write("and", (fair, first, last)), form == "until", wishes)


def found_row(draft, within, goal, ends, wishes):
    """Tell the number of a row for where the goal may be reached through within or, if ends, a fair run stays there."""
    found = draft.write("least", 0)
    ways = [goal, draft.write("and", (within, draft.write("some", found)))]
    if ends:
        ways.extend([round_row(draft, within, left, met) for left, met in choices_of(wishes)])
    draft.close(found, draft.write("or", tuple(ways)))
    return found


def choices_of(wishes):
    """Tell all pairs of the names that a fair run may leave for good, and of those that it then meets for ever."""
    told = [([], [])]
    for when, then in wishes:
        kept = [(left, [*met, then]) for left, met in told]
        # The text without signs is borne everywhere and never left.
        told = kept if when == "" else [*kept, *[([*left, when], met) for left, met in told]]
    return told


def round_row(draft, within, left, met):
    """Tell the number of a row for where a run stays within, with no name of left and each of met again and again."""
    inside = draft.write("and", (within, *[draft.write("bare", name) for name in left]))
    # The greatest row comes ahead of the least ones, so that it is the outer one.
    again = draft.write("greatest", 0)
    needs = [inside]
    for name in met:
        soon = draft.write("least", 0)
        later = draft.write("some", soon)
        there = draft.write("and", (again, draft.write("mark", name)))
        draft.close(soon, draft.write("and", (inside, draft.write("or", (there, later)))))
        needs.append(later)
    if len(met) == 0:
        needs.append(draft.write("some", again))
    draft.close(again, draft.write("and", tuple(needs)))
    return again
