"""What several tests need: things of every kind, and changes of a thing at every depth."""

import copy
import random
import sys
from unittest import mock

SOME_WORDS = ("some", "all")
WORDS = ("yes", "no", "not", "and", "or", "step", "some", "all", "next", "once", "ever", "until", "unless")
LINES = 100000


class Greedy:
    """Calls itself equal to everything, and less and greater too."""

    __hash__ = None

    def __eq__(self, other):
        return True

    def __lt__(self, other):
        return True

    def __gt__(self, other):
        return True

    def __le__(self, other):
        return True

    def __ge__(self, other):
        return True


class Sore:
    """Bears no comparison at all."""

    __hash__ = None

    def __eq__(self, other):
        raise RuntimeError("compared")

    def __bool__(self):
        raise RuntimeError("asked for its truth")


def deep(make, depth):
    """Tell things in one another, so many deep."""
    thing = make(0)
    for _ in range(depth - 1):
        thing = make(thing)
    return thing


def anything():
    """Tell a new list of things of every kind that may be handed in as anything."""
    return [
        None, True, False, 0, 1, 2, -1, 8, 9, 40, 41, 10 ** 999 - 1, -(10 ** 999 - 1),
        "", " ", "a", "b", "aa", "abcdefgh", "abcdefghi", "A", "a1", "a b", "a\n", "\n", ">", "~", "0", "9" * 1000,
        "mark", "is", "can", "last", "a" * 8000, *WORDS,
        (), (0,), ("a",), ((),), ((), ()), (((),), ((),)), (0, 0), ("a", "a"), (1, 0), ("b", "a"), ("a", 0), (True,),
        [], [0], ["a"], [[]], [[], []], [((),), ((),)], {}, {"a": 1}, {0: ()}, {(): []},
        deep(lambda x: (x,), 20), deep(lambda x: [x], 20), deep(lambda x: {"a": x}, 20),
        b"", b"a", bytearray(b"a"), set(), {0}, {"a"}, frozenset(), frozenset(["a"]), range(0), range(2),
        object(), object, int, tuple, len, lambda: 0, ..., NotImplemented, ValueError("a"), iter(()), (x for x in ()),
        mock.ANY, Greedy(), Sore(), 1j, memoryview(b"a"), slice(0, 1),
    ]


def changes(thing):
    """Tell the thing with each of its places, at every depth, put to each of anything, left out or doubled."""
    yield from anything()
    if isinstance(thing, tuple):
        yield list(thing)
        yield dict(enumerate(thing))
        yield thing[::-1]
        yield (*thing, None)
        for at, inner in enumerate(thing):
            yield thing[:at] + thing[at + 1:]
            yield thing[:at] + (inner,) + thing[at:]
            for other in changes(inner):
                yield thing[:at] + (other,) + thing[at + 1:]


def is_int(thing):
    return type(thing) is int


def is_name(thing):
    return type(thing) is str and 0 < len(thing) < 9 and set(thing) <= set("abcdefghijklmnopqrstuvwxyz") \
        and thing not in WORDS


def is_plain(thing):
    """Say whether the thing has nothing but tuples, numbers, texts, None, True and False in it."""
    if type(thing) is tuple:
        return all(is_plain(inner) for inner in thing)
    return thing is None or type(thing) in (int, str, bool)


def refusal(call, *args, **more):
    """Tell what the call tells, or the error that it raises."""
    try:
        return call(*args, **more)
    except ValueError as error:
        return error


def soon(call, *args, **more):
    """Tell what the call tells; AssertionError as soon as Python has gone through more than LINES lines for it."""
    left = LINES

    def trace(frame, event, arg):
        nonlocal left
        left -= 1
        if left < 0:
            raise AssertionError(f"more than {LINES} lines gone through")
        return trace

    ahead = sys.gettrace()
    sys.settrace(trace)
    try:
        return call(*args, **more)
    finally:
        sys.settrace(ahead)


def unchanged(case, call, *args, **more):
    """Tell what the call tells, and let the case fail where it changes what it is handed."""
    kept = copy.deepcopy((args, more))
    told = refusal(call, *args, **more)
    case.assertEqual(repr(kept), repr((args, more)))
    return told


def some_machine(chance, many):
    """Tell a machine of so many standings, by the chance handed in."""
    names = ("a", "b", "c", "dd", "mark")
    steps = tuple(tuple(sorted(chance.sample(range(many), chance.randint(0, min(many, 4))))) for _ in range(many))
    marks = tuple(tuple(sorted(chance.sample(names, chance.randint(0, 3)))) for _ in range(many))
    return steps, marks


def some_saying(chance, many):
    """Tell a saying of so many rows, by the chance handed in."""
    rows = [chance.choice([("yes",), ("no",), ("mark", "a"), ("mark", "step" + "s")])]
    kinds = [(("not",), 1), (("and",), 2), (("or",), 2), (("step",), 1), (("mark", "b"), 0), (("yes",), 0)]
    for word in SOME_WORDS:
        kinds += [((word, "next"), 1), ((word, "once"), 1), ((word, "ever"), 1)]
        kinds += [((word, "until"), 2), ((word, "unless"), 2)]
    near = chance.choice([4, many])
    while len(rows) < many:
        head, parts = chance.choice(kinds)
        rows.append(head + tuple(chance.randrange(max(0, len(rows) - near), len(rows)) for _ in range(parts)))
    return tuple(rows)


def chances(many):
    """Tell so many sources of chance, the same ones each time."""
    return [random.Random(seed) for seed in range(many)]
