"""What several tests need: things of every kind, and changes of a thing at every depth."""

import copy
import itertools
import random
import sys
from unittest import mock

SOME_WORDS = ("some", "all")
WORDS = ("yes", "no", "not", "and", "or", "step", "some", "all", "next", "once", "ever", "until", "unless")
LINES = 100000


class Greedy:
    """Calls itself equal to everything, and less and greater too."""

    __hash__ = None

    def __eq__(self, other):
        return True

    def __lt__(self, other):
        return True

    def __gt__(self, other):
        return True

    def __le__(self, other):
        return True

    def __ge__(self, other):
        return True


class Sore:
    """Bears no comparison at all."""

    __hash__ = None

    def __eq__(self, other):
        raise RuntimeError("compared")

    def __bool__(self):
        raise RuntimeError("asked for its truth")


def deep(make, depth):
    """Tell things in one another, so many deep."""
    thing = make(0)
    for _ in range(depth - 1):
        thing = make(thing)
    return thing


def anything():
    """Tell a new list of things of every kind that may be handed in as anything."""
    return [
        None, True, False, 0, 1, 2, -1, 8, 9, 40, 41, 10 ** 999 - 1, -(10 ** 999 - 1),
        "", " ", "a", "b", "aa", "abcdefgh", "abcdefghi", "A", "a1", "a b", "a\n", "\n", ">", "~", "0", "9" * 1000,
        "mark", "is", "can", "last", "a" * 8000, *WORDS,
        (), (0,), ("a",), ((),), ((), ()), (((),), ((),)), (0, 0), ("a", "a"), (1, 0), ("b", "a"), ("a", 0), (True,),
        [], [0], ["a"], [[]], [[], []], [((),), ((),)], {}, {"a": 1}, {0: ()}, {(): []},
        deep(lambda x: (x,), 20), deep(lambda x: [x], 20), deep(lambda x: {"a": x}, 20),
        b"", b"a", bytearray(b"a"), set(), {0}, {"a"}, frozenset(), frozenset(["a"]), range(0), range(2),
        object(), object, int, tuple, len, lambda: 0, ..., NotImplemented, ValueError("a"), iter(()), (x for x in ()),
        mock.ANY, Greedy(), Sore(), 1j, memoryview(b"a"), slice(0, 1),
    ]


def changes(thing):
    """Tell the thing with each of its places, at every depth, put to each of anything, left out or doubled."""
    yield from anything()
    if isinstance(thing, tuple):
        yield list(thing)
        yield dict(enumerate(thing))
        yield thing[::-1]
        yield (*thing, None)
        for at, inner in enumerate(thing):
            yield thing[:at] + thing[at + 1:]
            yield thing[:at] + (inner,) + thing[at:]
            for other in changes(inner):
                yield thing[:at] + (other,) + thing[at + 1:]


def is_int(thing):
    return type(thing) is int


def is_name(thing):
    return type(thing) is str and 0 < len(thing) < 9 and set(thing) <= set("abcdefghijklmnopqrstuvwxyz") \
        and thing not in WORDS


def is_plain(thing):
    """Say whether the thing has nothing but tuples, numbers, texts, None, True and False in it."""
    if type(thing) is tuple:
        return all(is_plain(inner) for inner in thing)
    return thing is None or type(thing) in (int, str, bool)


def refusal(call, *args, **more):
    """Tell what the call tells, or the error that it raises."""
    try:
        return call(*args, **more)
    except ValueError as error:
        return error


def soon(call, *args, **more):
    """Tell what the call tells; AssertionError as soon as Python has gone through more than LINES lines for it."""
    return sooner(LINES, call, *args, **more)


def sooner(lines, call, *args, **more):
    """Tell what the call tells; AssertionError as soon as Python has gone through more than so many lines for it."""
    left = lines

    def trace(frame, event, arg):
        nonlocal left
        left -= 1
        if left < 0:
            raise AssertionError(f"more than {lines} lines gone through")
        return trace

    ahead = sys.gettrace()
    sys.settrace(trace)
    try:
        return call(*args, **more)
    finally:
        sys.settrace(ahead)


def unchanged(case, call, *args, **more):
    """Tell what the call tells, and let the case fail where it changes what it is handed."""
    kept = copy.deepcopy((args, more))
    told = refusal(call, *args, **more)
    case.assertEqual(repr(kept), repr((args, more)))
    return told


def some_machine(chance, many):
    """Tell a machine of so many standings, by the chance handed in."""
    names = ("a", "b", "c", "dd", "mark")
    steps = tuple(tuple(sorted(chance.sample(range(many), chance.randint(0, min(many, 4))))) for _ in range(many))
    marks = tuple(tuple(sorted(chance.sample(names, chance.randint(0, 3)))) for _ in range(many))
    return steps, marks


def some_wishes(chance, many):
    """Tell so many wishes, by the chance handed in; nobody bears the name zz."""
    names = ("a", "b", "c", "dd", "mark", "zz")
    return tuple((chance.choice(("", *names)), chance.choice(names)) for _ in range(many))


def some_set(chance, many):
    """Tell a set of standings of a machine of so many, by the chance handed in."""
    return tuple(sorted(chance.sample(range(many), chance.choice([0, many, chance.randint(0, many)]))))


def put(row, at, thing):
    """Tell the tuple with the thing in this place."""
    return row[:at] + (thing,) + row[at + 1:]


def some_saying(chance, many):
    """Tell a saying of so many rows, by the chance handed in."""
    rows = [chance.choice([("yes",), ("no",), ("mark", "a"), ("mark", "step" + "s")])]
    kinds = [(("not",), 1), (("and",), 2), (("or",), 2), (("step",), 1), (("mark", "b"), 0), (("yes",), 0)]
    for word in SOME_WORDS:
        kinds += [((word, "next"), 1), ((word, "once"), 1), ((word, "ever"), 1)]
        kinds += [((word, "until"), 2), ((word, "unless"), 2)]
    near = chance.choice([4, many])
    while len(rows) < many:
        head, parts = chance.choice(kinds)
        rows.append(head + tuple(chance.randrange(max(0, len(rows) - near), len(rows)) for _ in range(parts)))
    return tuple(rows)


def some_sheet(chance, many, points, changes=2):
    """Tell a sheet of so many rows, with so many least and greatest ones, whose words change so often at most."""
    order = chance.sample(range(many), many)
    at = sorted(chance.sample(range(many), min(points, many)))
    cuts = chance.choices(range(len(at) + 1), k=chance.randint(0, changes))
    words = chance.sample(["least", "greatest"], 2)
    rows = {}
    for place, number in enumerate(order):
        # Other rows lead to points or onward in the drawn order, so that no round is without a point.
        onward = [other for other in order[place + 1:] if other not in at]
        led = [chance.choice(at if at and chance.random() < 0.5 or not onward else onward) if at or onward else None
               for _ in range(chance.choice([0, 1, 2, 2, 3]))]
        word = chance.choice(["mark", "bare", *["and", "or", "some", "all"] * 2])
        if number in at:
            turn = at.index(number)
            rows[number] = (words[sum(turn >= cut for cut in cuts) % 2], chance.randrange(many))
        elif word in ("and", "or") and None not in led:
            rows[number] = (word, tuple(led))
        elif word in ("some", "all") and led and None not in led:
            rows[number] = (word, led[0])
        else:
            rows[number] = (chance.choice(["mark", "bare"]), chance.choice("abc"))
    return tuple(rows[number] for number in range(many))


def knotted_sheet(chance, points, changes=2):
    """Tell a sheet with so many points that mostly lead to one another, and whose words change so often at most."""
    cuts = chance.choices(range(points + 1), k=changes)
    words = chance.sample(["least", "greatest"], 2)
    rows = [(words[sum(turn >= cut for cut in cuts) % 2], points + 2 * turn) for turn in range(points)]
    ends = [*range(3 * points, 5 * points + 2)]
    for _ in range(points):
        joins = chance.sample(["and", "or"], 2)
        rows.append((joins[0], (len(rows) + 1, *chance.sample(ends, chance.randint(1, 2)))))
        rows.append((joins[1], tuple(chance.sample(ends, 2))))
    rows += [(word, turn) for turn in range(points) for word in SOME_WORDS] + [("mark", "a"), ("bare", "b")]
    return tuple(rows)


def numbered_anew(sheet, places):
    """Tell the sheet with each row in its place of these."""
    rows = [None] * len(sheet)
    for place, (word, inner) in zip(places, sheet):
        if type(inner) is tuple:
            inner = tuple(places[other] for other in inner)
        rows[place] = (word, places[inner] if type(inner) is int else inner)
    return tuple(rows)


def points_last(sheet):
    """Tell the sheet with its least and greatest rows behind all others, else in order."""
    numbers = sorted(range(len(sheet)), key=lambda number: sheet[number][0] in ("least", "greatest"))
    return numbered_anew(sheet, [numbers.index(number) for number in range(len(sheet))])


def chances(many):
    """Tell so many sources of chance, the same ones each time."""
    return [random.Random(seed) for seed in range(many)]


def marked(machine, standing, name):
    return name == "" or name in machine[1][standing]


def met(machine, standings, wishes):
    """Say whether a run that has just these standings again and again for ever meets each wish."""
    def borne(name):
        return any(marked(machine, one, name) for one in standings)
    return all(borne(then) or not borne(when) for when, then in wishes)


def leads(machine, within):
    """Tell all pairs of standings so that one step or more within, both ends with it, lead from the one to the other."""
    rows = {one: sum(1 << other for other in machine[0][one] if other in within) for one in within}
    for mid in within:
        for one in within:
            if rows[one] >> mid & 1:
                rows[one] |= rows[mid]
    return {(one, other) for one in within for other in within if rows[one] >> other & 1}


def fair_sets(machine, wishes):
    """Tell, by going through all sets, the sets of standings that a fair run can have again and again for ever."""
    many = len(machine[0])
    told = []
    for size in range(1, many + 1):
        for row in itertools.combinations(range(many), size):
            pairs = leads(machine, row)
            if len(pairs) == size * size and met(machine, row, wishes):
                told.append(set(row))
    return told


def ever_of(machine, within, wishes):
    """Tell, by going through all sets, where a fair run begins that stays within."""
    pairs = leads(machine, within)
    fair = set().union(*[one for one in fair_sets(machine, wishes) if one <= set(within)])
    return tuple(one for one in within if one in fair or any((one, other) in pairs for other in fair))


def until_of(machine, within, goal):
    """Tell, by going through all sets, the least one that has the goal and what leads into it through within."""
    many = len(machine[0])
    told = set(range(many))
    for size in range(many + 1):
        for row in itertools.combinations(range(many), size):
            closed = all(one in row for one in within if any(other in row for other in machine[0][one]))
            if closed and set(goal) <= set(row):
                told &= set(row)
    return tuple(sorted(told))


def ever_by_choice(machine, within, wishes):
    """Tell where a fair run begins that stays within, by trying whose whens it leaves for good."""
    fair = set()
    for left in itertools.product((False, True), repeat=len(wishes)):
        gone = [when for (when, then), off in zip(wishes, left) if off]
        kept = [then for (when, then), off in zip(wishes, left) if not off]
        inner = [one for one in within if not any(marked(machine, one, name) for name in gone)]
        pairs = leads(machine, inner)
        for one in inner:
            part = [other for other in inner if (one, other) in pairs and (other, one) in pairs]
            if part and all(any(marked(machine, other, name) for other in part) for name in kept):
                fair.add(one)
    pairs = leads(machine, within)
    return tuple(one for one in within if one in fair or any((one, other) in pairs for other in fair))


def unrolled(run, many):
    """Tell the standings of a run at the first so many places."""
    path, ring = run
    told = list(path)
    while len(told) < many:
        told += ring
    return told[:many]


def is_run(machine, thing):
    """Say by Python's own means whether the thing is a right run of the machine."""
    if type(thing) is not tuple or len(thing) != 2 or [type(one) for one in thing] != [tuple, tuple]:
        return False
    path, ring = thing
    if not ring or len(path) + len(ring) > 400 or any(type(one) is not int for one in path + ring):
        return False
    if any(not 0 <= one < min(40, len(machine[0])) for one in path + ring):
        return False
    told = unrolled(thing, len(path) + len(ring) + 1)
    return all(other in machine[0][one] for one, other in zip(told, told[1:]))
