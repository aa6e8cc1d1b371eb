"""Sayings and machines as texts, and back."""

from fairtrees.bounds import ROWS, WORDS
from fairtrees.errors import NoText, TooGreat
from fairtrees.machines import is_machine
from fairtrees.sayings import PARTS, parts_of, words_of
from fairtrees.signs import is_name, is_text


def text_of(saying):
    """Tell the text of a saying; TooGreat where it has more than 400 words."""
    if count_of(saying) > WORDS:
        raise TooGreat("the text would have more than 400 words")
    words = []
    waiting = [saying[-1]]
    while waiting:
        row = waiting.pop()
        words.extend(words_of(row))
        # What is put down last is taken up first, so the first part goes last.
        waiting.extend([saying[part] for part in reversed(parts_of(row))])
    return " ".join(words)


def count_of(saying):
    """Tell how many words the text of a saying has, by sums: rows that stand in rows twice make it huge."""
    counts = []
    for row in saying:
        counts.append(len(words_of(row)) + sum([counts[part] for part in parts_of(row)]))
    return counts[-1]


def read(text):
    """Tell the saying whose text this is; NoText of anything else."""
    if not is_text(text):
        raise NoText("no text")
    words = text.split(" ")
    if len(words) > WORDS:
        raise NoText("more than 400 words")
    numbers = {}
    parts = []
    left = len(words)
    while left > 0:
        head = head_ahead(words, left)
        left -= len(head)
        row = row_of(head, parts)
        parts.append(numbers.setdefault(row, len(numbers)))
    if len(parts) != 1:
        raise NoText("words are left over")
    if len(numbers) > ROWS:
        raise NoText("more than 160 unlike rows")
    return tuple(numbers)


def head_ahead(words, left):
    """Tell the words of one row that end where so many words are left: some or all with the word behind it, or one."""
    pair = tuple(words[max(left - 2, 0):left])
    return pair if pair in PARTS else (words[left - 1],)


def row_of(head, parts):
    """Tell the row that these words make, and take from parts, whose last one stands nearest, what it needs."""
    if head not in PARTS:
        if not is_name(head[0]):
            raise NoText("a word that is neither a name nor a word of sayings with what it needs beside it")
        return "mark", head[0]
    if len(parts) < PARTS[head]:
        raise NoText("words are missing")
    row = list(head)
    for part in range(PARTS[head]):
        row.append(parts.pop())
    return tuple(row)


def machine_text(machine):
    """Tell the text of a machine, a line for each standing."""
    steps, marks = machine
    return "\n".join([line_of(names, row) for names, row in zip(marks, steps)])


def line_of(names, row):
    """Tell the line of a standing that bears these names and has these steps."""
    numbers = [str(standing) for standing in row]
    return " ".join([*names, ">", *numbers])


def read_machine(text):
    """Tell the machine whose text this is; NoText of anything else."""
    if not is_text(text):
        raise NoText("no text")
    lines = text.split("\n")
    # Numbers are looked up as they are written, so those with needless noughts are not found.
    written = {str(standing): standing for standing in range(len(lines))}
    pairs = [read_line(line, written) for line in lines]
    machine = tuple([row for names, row in pairs]), tuple([names for names, row in pairs])
    if not is_machine(machine):
        raise NoText("the lines are those of no machine")
    return machine


def read_line(line, written):
    """Tell the names and the steps that a line tells."""
    words = line.split(" ")
    if words.count(">") != 1:
        raise NoText("a line without just one sign between names and numbers")
    at = words.index(">")
    numbers = words[at + 1:]
    if not all([word in written for word in numbers]):
        raise NoText("a line with what is no number of a standing")
    return tuple(words[:at]), tuple([written[word] for word in numbers])
