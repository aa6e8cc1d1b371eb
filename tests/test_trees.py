"""Points 3 and 24: trees that show why, and their judge."""

import unittest

from fairtrees.telling import tell
from fairtrees.trees import right_tree, why
from tests import helper
from tests.helper import put
from tests.test_telling import ALL, FORMS, KINDS, MACHINE

# 0 and 1 go round, 1 leads to 2 too, 2 stands still by a step, 3 has no step.
SMALL = (((1,), (0, 2), (2,), ()), (("a",), ("a",), ("b",), ("b",)))
BOTH = (("mark", "a"), ("mark", "b"))
WISHES = (("", "a"), ("b", "a"))


def right_node(machine, saying, sets, tree, node, wishes):
    """Say whether a node is right, sentence by sentence."""
    number, standing, truth, run, kids = node
    row = saying[number]
    told = [tree[kid][:3] for kid in kids]
    if any(tree[kid][0] >= number for kid in kids):
        return False
    if row[0] in ("some", "all"):
        if truth != (row[0] == "some"):
            return run is None and not kids and (standing in sets[number]) == truth
        if not helper.is_run(machine, run) or (run[0] + run[1])[0] != standing:
            return False
        return helper.met(machine, run[1], wishes) and right_kids(row, run, told)
    if run is not None:
        return False
    i, j = (row[1], row[-1]) if row[0] not in ("yes", "no", "mark") else (None, None)
    if row[0] in ("yes", "no"):
        return not kids and truth == (row[0] == "yes")
    if row[0] == "mark":
        return not kids and truth == (row[1] in machine[1][standing])
    if row[0] == "not":
        return told == [(i, standing, not truth)]
    if row[0] == "step":
        if truth:
            return len(told) == 1 and told[0] in [(i, other, True) for other in machine[0][standing]]
        return told == [(i, other, False) for other in machine[0][standing]]
    if (row[0], truth) in (("and", True), ("or", False)):
        return told == [(i, standing, truth), (j, standing, truth)]
    return told == [(i, standing, truth)] or told == [(j, standing, truth)]


def right_kids(row, run, told):
    """Say whether kids are those that a run shows; a run is unrolled as far as there are kids."""
    word, form, i, j = row[0], row[1], row[2], row[-1]
    path, ring = run
    far = helper.unrolled(run, len(told) + 2)
    unlike = list(dict.fromkeys(path + ring))

    def each(part):
        return told == [(part, standing, word == "some") for standing in unlike]

    def one(part):
        return len(told) == 1 and told[0] in [(part, standing, word == "some") for standing in unlike]

    def until():
        return any(told == [(i, far[at], True) for at in range(place)] + [(j, far[place], True)] for place in range(len(told)))

    def broken():
        return any(told == [(j, far[at], False) for at in range(place)] + [(i, far[place], False), (j, far[place], False)]
                   for place in range(len(told)))

    return {
        ("some", "next"): lambda: told == [(i, far[1], True)],
        ("some", "once"): lambda: one(i),
        ("some", "ever"): lambda: each(i),
        ("some", "until"): lambda: until(),
        ("some", "unless"): lambda: until() or each(i),
        ("all", "next"): lambda: told == [(i, far[1], False)],
        ("all", "ever"): lambda: one(i),
        ("all", "once"): lambda: each(i),
        ("all", "unless"): lambda: broken(),
        ("all", "until"): lambda: broken() or each(j),
    }[word, form]()


def judge_tree(machine, saying, sets, thing, wishes):
    """Say whether the thing is a right tree."""
    if type(thing) is not tuple or not thing:
        return False
    for node in thing:
        if type(node) is not tuple or len(node) != 5:
            return False
        number, standing, truth, run, kids = node
        if type(number) is not int or number not in range(len(saying)) or type(truth) is not bool:
            return False
        if type(standing) is not int or standing not in range(len(machine[0])) or type(kids) is not tuple:
            return False
        if any(type(kid) is not int or kid not in range(len(thing)) for kid in kids):
            return False
    return all(right_node(machine, saying, sets, thing, node, wishes) for node in thing)


class Why(unittest.TestCase):
    def check(self, machine, saying, wishes, standing, row=None, sets=None):
        told = why(machine, saying, standing, wishes=wishes, row=row)
        sets = sets or tell(machine, saying, wishes=wishes)
        self.assertTrue(type(told) is tuple and helper.is_plain(told))
        self.assertIs(right_tree(machine, saying, sets, told, wishes=wishes), True)
        self.assertTrue(judge_tree(machine, saying, sets, told, wishes))
        self.assertEqual(told[0][:2], (len(saying) - 1 if row is None else row, standing))
        self.assertEqual(len({node[:2] for node in told}), len(told))
        self.assertEqual(set(range(1, len(told))), {kid for node in told for kid in node[4]})
        for node in told:
            self.assertIs(node[2], node[1] in sets[node[0]])
            if node[3] is not None:
                self.assertLessEqual(len(node[3][0]) + len(node[3][1]), 400)
        self.assertEqual(why(machine, saying, standing, wishes=wishes, row=row), told)
        return told

    def test_an_ordinary_one(self):
        told = self.check(SMALL, BOTH + (("some", "until", 0, 1),), (), 0)
        number, standing, truth, run, kids = told[0]
        self.assertEqual((number, standing, truth), (2, 0, True))
        self.assertEqual([told[kid][:3] for kid in kids], [(0, 0, True), (0, 1, True), (1, 2, True)])

    def test_each_kind_of_row_at_each_standing(self):
        seen = set()
        for machine in (SMALL, MACHINE, (((0, 1), (1,)), (("a", "b"), ("b",))), (((),), (("b",),)), (((0,),), (("a",),))):
            for wishes in ((), (("", "a"),), (("a", "zz"),), (("", "b"), ("b", "a")), WISHES):
                sets = tell(machine, KINDS, wishes=wishes)
                for row in range(len(KINDS)):
                    for standing in range(len(machine[0])):
                        told = self.check(machine, KINDS, wishes, standing, row, sets)
                        seen.add((KINDS[row], told[0][2]))
        self.assertEqual(len(seen), 2 * len(KINDS) - 2)

    def test_row_left_out_and_none(self):
        saying = BOTH + (("some", "until", 0, 1), ("yes",))
        self.assertEqual(why(SMALL, saying, 0), ((3, 0, True, None, ()),))
        self.assertEqual(why(SMALL, saying, 0, row=None), ((3, 0, True, None, ()),))
        self.assertEqual(why(SMALL, saying, 0, row=0), ((0, 0, True, None, ()),))
        self.assertEqual(why(SMALL, saying, 3, row=0), ((0, 3, False, None, ()),))
        self.assertEqual(why(SMALL, saying, 0, row=2), why(SMALL, saying[:3], 0))

    def test_walls(self):
        saying = BOTH + (("some", "ever", 1), ("all", "once", 1), ("all", "next", 0), ("some", "next", 0))
        self.assertEqual(why(SMALL, saying, 0, row=2), ((2, 0, False, None, ()),))
        self.assertEqual(why(SMALL, saying, 3, row=3), ((3, 3, True, None, ()),))
        self.assertEqual(why(SMALL, saying, 3, row=4), ((4, 3, True, None, ()),))
        self.assertEqual(why(SMALL, saying, 3), ((5, 3, False, None, ()),))

    def test_a_step_that_fails_has_a_kid_for_each_step(self):
        told = self.check(SMALL, (("no",), ("step", 0)), (), 1)
        self.assertEqual(told, ((1, 1, False, None, (1, 2)), (0, 0, False, None, ()), (0, 2, False, None, ())))
        self.assertEqual(self.check(SMALL, (("yes",), ("step", 0)), (), 3), ((1, 3, False, None, ()),))

    def test_wishes_left_out(self):
        saying = (("yes",), ("some", "ever", 0))
        self.assertEqual(why(SMALL, saying, 1), why(SMALL, saying, 1, wishes=()))
        self.assertIs(right_tree(SMALL, saying, tell(SMALL, saying), why(SMALL, saying, 1)), True)

    def test_small_machines_by_chance(self):
        seen = set()
        for chance in helper.chances(120):
            many = chance.randint(1, 6)
            machine = helper.some_machine(chance, many)
            saying = KINDS + tuple((*row[:2], *[chance.randrange(len(KINDS)) for _ in row[2:]]) for row in KINDS[9:])
            wishes = helper.some_wishes(chance, chance.randint(0, 4))
            sets = tell(machine, saying, wishes=wishes)
            for row in range(9, len(saying)):
                told = self.check(machine, saying, wishes, chance.randrange(many), row, sets)
                seen.add((saying[row][:2], told[0][2]))
        self.assertEqual(len(seen), 20)

    def test_drawn_sayings(self):
        for chance in helper.chances(150):
            many = chance.randint(1, 8)
            machine = helper.some_machine(chance, many)
            saying = helper.some_saying(chance, chance.randint(1, 30))
            wishes = helper.some_wishes(chance, chance.randint(0, 4))
            self.check(machine, saying, wishes, chance.randrange(many))

    def test_chains_of_160_rows_on_40_standings(self):
        ring = (tuple(((one + 1) % 40,) for one in ALL), tuple(("a",) if one % 9 else ("b",) for one in ALL))
        wishes = (("", "a"), ("a", "b"), ("b", "a"), ("zz", "yy"))
        saying = (("yes",),) + tuple(("some", "ever", one) for one in range(159))
        self.assertEqual(len(self.check(ring, saying, wishes, 7)), 159 * 40 - 39 + 40)
        saying = (("no",),) + tuple(("all", "once", one) for one in range(159))
        self.assertEqual(len(self.check(ring, saying, wishes, 7)), 159 * 40 - 39 + 40)
        for first, row in ((("yes",), ("some", "next")), (("no",), ("all", "next")), (("yes",), ("step",)), (("no",), ("step",)),
                           (("mark", "a"), ("some", "once")), (("mark", "a"), ("all", "ever")), (("yes",), ("not",))):
            self.check(ring, (first,) + tuple((*row, one) for one in range(159)), wishes, 39)
        for first, row in ((("mark", "a"), ("some", "until")), (("mark", "b"), ("some", "unless")), (("mark", "a"), ("all", "until")),
                           (("mark", "b"), ("all", "unless")), (("yes",), ("and",)), (("no",), ("or",)), (("no",), ("and",))):
            saying = (first, ("not", 0)) + tuple((*row, one, one + 1) for one in range(158))
            self.check(ring, saying, wishes, 0)

    def test_all_steps_and_long_rows(self):
        full = ((ALL,) * 40, tuple(("a",) if one == 39 else ("b",) for one in ALL))
        long = (tuple((one + 1,) for one in range(39)) + ((20,),), tuple(("a",) if one == 39 else ("b",) for one in ALL))
        for machine in (full, long):
            for wishes in ((), (("", "a"), ("a", "b"), ("b", "a"), ("", "b"))):
                sets = tell(machine, KINDS, wishes=wishes)
                for row in range(len(KINDS)):
                    for standing in (0, 20, 39):
                        self.check(machine, KINDS, wishes, standing, row, sets)


class Cases(unittest.TestCase):
    machine, wishes = SMALL, ()

    def both(self, saying, tree, sets=None):
        """Tell what the judge says, where the one of this file says the same, and what it lets by is so."""
        so = tell(self.machine, saying, wishes=self.wishes)
        told = right_tree(self.machine, saying, so if sets is None else sets, tree, wishes=self.wishes)
        self.assertIs(told, judge_tree(self.machine, saying, so if sets is None else sets, tree, self.wishes), (saying, tree))
        if told and sets is None:
            self.assertEqual([node for node in tree if node[2] != (node[1] in so[node[0]])], [])
        return told

    def right(self, saying, *nodes, sets=None):
        self.assertTrue(self.both(saying, nodes, sets), (saying, nodes))

    def wrong(self, saying, *nodes, sets=None):
        self.assertFalse(self.both(saying, nodes, sets), (saying, nodes))

    def marks(self, *shown):
        """Tell nodes of rows 0 and 1, which are marks, from (row, standing) pairs, each with what is so."""
        return tuple((row, standing, BOTH[row][1] in self.machine[1][standing], None, ()) for row, standing in shown)


class Plain(Cases):
    """Nodes without runs."""

    def test_yes_no_and_mark(self):
        saying = (("yes",), ("no",), ("mark", "a"))
        for standing in range(4):
            self.right(saying, (0, standing, True, None, ()))
            self.wrong(saying, (0, standing, False, None, ()))
            self.right(saying, (1, standing, False, None, ()))
            self.wrong(saying, (1, standing, True, None, ()))
            so = standing in (0, 1)
            self.right(saying, (2, standing, so, None, ()))
            self.wrong(saying, (2, standing, not so, None, ()))
        kid = (0, 0, True, None, ())
        self.wrong(saying, (2, 0, True, None, (1,)), kid)
        self.wrong(saying, (1, 0, False, None, (1,)), kid)
        self.wrong(saying, (2, 0, True, ((), (0, 1)), ()))
        self.wrong(saying, (0, 2, True, ((), (2,)), ()))

    def test_not(self):
        saying = BOTH + (("not", 0),)
        self.right(saying, (2, 2, True, None, (1,)), *self.marks((0, 2)))
        self.right(saying, (2, 0, False, None, (1,)), *self.marks((0, 0)))
        self.wrong(saying, (2, 2, False, None, (1,)), *self.marks((0, 2)))
        self.wrong(saying, (2, 2, True, None, ()), *self.marks((0, 2)))
        self.wrong(saying, (2, 2, True, None, (1, 1)), *self.marks((0, 2)))
        self.wrong(saying, (2, 2, True, None, (1,)), *self.marks((0, 3)))
        self.wrong(saying, (2, 0, True, None, (1,)), *self.marks((1, 0)))
        self.wrong(saying, (2, 2, True, ((), (2,)), (1,)), *self.marks((0, 2)))

    def test_and_or(self):
        for word, truth in (("and", True), ("or", False)):
            both = BOTH + (("not", 1), (word, 0, 2))
            standing = 0 if truth else 2
            one, other = self.marks((0, standing))[0], (2, standing, truth, None, (3,))
            inner = self.marks((1, standing))[0]
            self.right(both, (3, standing, truth, None, (1, 2)), one, other, inner)
            self.wrong(both, (3, standing, truth, None, (2, 1)), one, other, inner)
            self.wrong(both, (3, standing, truth, None, (1,)), one, other, inner)
            self.wrong(both, (3, standing, truth, None, (2,)), one, other, inner)
            self.wrong(both, (3, standing, truth, None, ()), one, other, inner)
            self.wrong(both, (3, standing, truth, None, (1, 2, 2)), one, other, inner)
            self.wrong(both, (3, standing, truth, None, (1, 3)), one, other, inner)
            self.wrong(both, (3, standing, not truth, None, (1, 2)), one, other, inner)
            self.wrong(both, (3, standing, truth, ((), (2,)), (1, 2)), one, other, inner)
            twice = BOTH + ((word, 0, 0),)
            self.right(twice, (2, standing, truth, None, (1, 1)), one)
            self.right(twice, (2, standing, truth, None, (1, 2)), one, one)
            self.wrong(twice, (2, standing, truth, None, (1,)), one)
        for word, truth in (("and", False), ("or", True)):
            saying = BOTH + ((word, 0, 1),)
            for standing in (0, 2):
                one, other = self.marks((0, standing), (1, standing))
                so = 1 if one[2] == truth else 2
                self.right(saying, (2, standing, truth, None, (so,)), one, other)
                self.wrong(saying, (2, standing, truth, None, (3 - so,)), one, other)
                self.wrong(saying, (2, standing, truth, None, (1, 2)), one, other)
                self.wrong(saying, (2, standing, truth, None, ()), one, other)
                self.wrong(saying, (2, standing, truth, None, (so, so)), one, other)
                beside = self.marks((so - 1, standing + 1))
                self.wrong(saying, (2, standing, truth, None, (1,)), *beside)

    def test_step(self):
        saying = BOTH + (("step", 0), ("step", 1))
        marks = self.marks((0, 0), (1, 0), (0, 2), (1, 2), (1, 1))
        self.right(saying, (2, 1, True, None, (1,)), *marks)
        self.right(saying, (3, 1, True, None, (4,)), *marks)
        self.right(saying, (3, 0, False, None, (5,)), *marks)
        self.right(saying, (2, 3, False, None, ()), *marks)
        for node in ((2, 1, True, None, ()), (2, 1, True, None, (3,)), (2, 1, True, None, (1, 1)), (3, 0, True, None, (4,)),
                     (3, 0, False, None, ()), (3, 0, False, None, (5, 5)), (2, 3, True, None, ()), (2, 3, False, None, (3,)),
                     (2, 1, True, ((), (1, 0)), (1,)), (3, 1, True, None, (5,)), (3, 1, False, None, (2,))):
            self.wrong(saying, node, *marks)
        saying = (("no",), ("step", 0))
        kids = ((0, 0, False, None, ()), (0, 2, False, None, ()))
        self.right(saying, (1, 1, False, None, (1, 2)), *kids)
        for order in ((2, 1), (1,), (2,), (1, 2, 2), (1, 1)):
            self.wrong(saying, (1, 1, False, None, order), *kids)


class Runs(Cases):
    """Nodes with runs, and walls."""

    def test_runs_that_are_no_right_fair_ones_from_the_standing(self):
        saying = (("yes",), ("some", "once", 0))
        kid = (0, 0, True, None, ())
        for run in (((), (0, 1)), ((0,), (1, 0)), ((0, 1, 0, 1), (0, 1)), ((), (0, 1, 0, 1)), ((0, 1), (2,)), ((0, 1, 0, 1), (2, 2))):
            self.right(saying, (1, 0, True, run, (1,)), kid)
        for run in (None, (), ((), ()), ((), (0,)), ((), (1, 0)), ((1,), (0, 1)), ((0,), (2,)), ((0, 1, 0), ()), ((), [0, 1]),
                    [(), (0, 1)], ((), (0, 1), ()), ((False,), (1, 0)), ((0,), (True, 0)), ((), (0, 1) * 201), ((0, 1, 3), (2,))):
            self.wrong(saying, (1, 0, True, run, (1,)), kid)
        self.right(saying, (1, 0, True, ((), (0, 1) * 200), (1,)), kid)
        self.wishes = (("", "b"),)
        self.wrong(saying, (1, 0, True, ((), (0, 1)), (1,)), kid)
        self.right(saying, (1, 0, True, ((0, 1), (2,)), (1,)), kid)
        self.wishes = (("", "a"),)
        self.right(saying, (1, 0, True, ((), (0, 1)), (1,)), kid)
        self.wrong(saying, (1, 0, True, ((0, 1), (2,)), (1,)), kid)
        self.wishes = (("b", "a"),)
        self.wrong(saying, (1, 0, True, ((0, 1), (2,)), (1,)), kid)

    def test_next(self):
        some, every = BOTH + (("some", "next", 1),), BOTH + (("all", "next", 0),)
        marks = self.marks((1, 2), (0, 2), (0, 0), (1, 0))
        self.right(some, (2, 1, True, ((1,), (2,)), (1,)), *marks)
        self.right(some, (2, 1, True, ((1, 2, 2), (2, 2)), (1,)), *marks)
        self.wrong(some, (2, 1, True, ((), (1, 0)), (1,)), *marks)
        self.wrong(some, (2, 1, True, ((1,), (2,)), (4,)), *marks)
        self.wrong(some, (2, 1, True, ((1,), (2,)), ()), *marks)
        self.wrong(some, (2, 1, True, ((1,), (2,)), (1, 1)), *marks)
        self.wrong(some, (2, 1, True, None, (1,)), *marks)
        self.right(every, (2, 1, False, ((1,), (2,)), (2,)), *marks)
        self.wrong(every, (2, 1, False, ((), (1, 0)), (2,)), *marks)
        self.wrong(every, (2, 1, False, ((), (1, 0)), (3,)), *marks)
        self.wrong(every, (2, 1, False, ((1,), (2,)), (1,)), *marks)
        # On a ring of one standing, that one comes next.
        self.right(some, (2, 2, True, ((), (2,)), (1,)), *marks)

    def test_once_of_some_and_ever_of_all_have_one_kid(self):
        for row, truth, part in ((("some", "once", 1), True, 1), (("all", "ever", 0), False, 0)):
            saying = BOTH + (row,)
            marks = self.marks((part, 2), (part, 0), (1 - part, 2))
            run = ((0, 1), (2,))
            self.right(saying, (2, 0, truth, run, (1,)), *marks)
            for kids in ((), (1, 1), (2,), (3,), (2, 1)):
                self.wrong(saying, (2, 0, truth, run, kids), *marks)
            self.wrong(saying, (2, 0, truth, ((), (0, 1)), (1,)), *marks)
            self.wrong(saying, (2, 0, truth, None, (1,)), *marks)
            self.wrong(saying, (2, 0, not truth, run, (1,)), *marks)
            self.wrong(saying, (2, 3, truth, run, (1,)), *marks)

    def test_ever_of_some_and_once_of_all_have_a_kid_for_each(self):
        for row, truth, part in ((("some", "ever", 0), True, 0), (("all", "once", 1), False, 1)):
            saying = BOTH + (row,)
            marks = self.marks((part, 0), (part, 1), (part, 2), (1 - part, 1))
            for run in (((), (0, 1)), ((0, 1, 0), (1, 0)), ((), (0, 1) * 9)):
                self.right(saying, (2, 0, truth, run, (1, 2)), *marks)
                for kids in ((2, 1), (1,), (2,), (), (1, 2, 1), (1, 2, 3), (1, 4), (1, 1), (1, 2, 1, 2)):
                    self.wrong(saying, (2, 0, truth, run, kids), *marks)
            self.right(saying, (2, 1, truth, ((), (1, 0)), (2, 1)), *marks)
            self.wrong(saying, (2, 1, truth, ((), (1, 0)), (1, 2)), *marks)
            self.wrong(saying, (2, 0, truth, ((0, 1), (2,)), (1, 2)), *marks)
            self.wrong(saying, (2, 0, truth, ((0, 1), (2,)), (1, 2, 3)), *marks)

    def test_until_of_some(self):
        marks = self.marks((0, 0), (0, 1), (1, 2), (0, 2), (1, 0))
        for form in ("until", "unless"):
            saying = BOTH + (("some", form, 0, 1),)
            run = ((0, 1), (2,))
            self.right(saying, (2, 0, True, run, (1, 2, 3)), *marks)
            self.right(saying, (2, 0, True, ((0, 1), (2, 2)), (1, 2, 3)), *marks)
            self.right(saying, (2, 0, True, ((0, 1, 2), (2,)), (1, 2, 3)), *marks)
            self.right(saying, (2, 0, True, ((0, 1, 0, 1), (2,)), (1, 2, 1, 2, 3)), *marks)
            self.right(saying, (2, 2, True, ((), (2,)), (3,)), *marks)
            for kids in ((), (3,), (1, 2), (2, 1, 3), (1, 2, 4), (1, 2, 3, 3), (1, 3), (1, 2, 1, 2, 3), (1, 1, 3), (3, 2, 1), (5,)):
                self.wrong(saying, (2, 0, True, run, kids), *marks)
            self.wrong(saying, (2, 0, True, None, (1, 2, 3)), *marks)
            self.wrong(saying, (2, 0, False, run, (1, 2, 3)), *marks)

    def test_a_place_where_the_run_has_gone_round_its_ring_already(self):
        # Both rows hold at all standings of the ring, so any place will do.
        for form in ("until", "unless"):
            saying = (("yes",), ("not", 0), ("not", 1), ("some", form, 0, 2))
            inner = []
            for standing in (0, 1):
                at = len(inner)
                inner += [(0, standing, True, None, ()), (1, standing, False, None, (1 + at,)), (2, standing, True, None, (2 + at,))]
            self.right(saying, *inner[:1])
            for place in (0, 1, 2, 3, 4, 7, 50, 401, 1000):
                kids = tuple((1, 4)[at % 2] for at in range(place)) + ((3, 6)[place % 2],)
                self.right(saying, (3, 0, True, ((), (0, 1)), kids), *inner)
                self.right(saying, (3, 0, True, ((0,), (1, 0)), kids), *inner)
                self.wrong(saying, (3, 0, True, ((), (0, 1)), kids + kids[-1:]), *inner)
                self.wrong(saying, (3, 0, True, ((), (0, 1)), kids[:-1] + ((6, 3)[place % 2],)), *inner)
                if place > 2:
                    self.wrong(saying, (3, 0, True, ((), (0, 1)), kids[1:]), *inner)

    def test_unless_of_some_as_ever(self):
        marks = self.marks((0, 0), (0, 1))
        self.right(BOTH + (("some", "unless", 0, 1),), (2, 0, True, ((), (0, 1)), (1, 2)), *marks)
        self.wrong(BOTH + (("some", "until", 0, 1),), (2, 0, True, ((), (0, 1)), (1, 2)), *marks)
        self.wrong(BOTH + (("some", "unless", 0, 1),), (2, 0, True, ((), (0, 1)), (2, 1)), *marks)
        self.wrong(BOTH + (("some", "unless", 0, 1),), (2, 0, True, ((), (0, 1)), (1, 2, 1)), *marks)
        self.wrong(BOTH + (("some", "unless", 1, 0),), (2, 1, True, ((), (1, 0)), (2, 1)), *marks)

    def test_unless_of_all(self):
        # Neither c nor b holds at 0 and 1; b holds at 2.
        marks = self.marks((1, 0), (1, 1), (1, 2), (0, 0))
        dark = [(2, standing, False, None, ()) for standing in (0, 1)]
        for form in ("unless", "until"):
            saying = BOTH + (("mark", "c"), ("all", form, 2, 1))
            run = ((0, 1), (2,))
            self.right(saying, (3, 0, False, run, (5, 1)), *marks, *dark)
            self.right(saying, (3, 0, False, run, (1, 6, 2)), *marks, *dark)
            self.right(saying, (3, 0, False, ((0, 1, 0, 1), (2,)), (1, 2, 1, 6, 2)), *marks, *dark)
            self.right(saying, (3, 0, False, ((), (0, 1)), (1, 2, 1, 2, 5, 1)), *marks, *dark)
            self.right(saying, (3, 1, False, ((), (1, 0)), (6, 2)), *marks, *dark)
            for kids in ((), (5,), (1,), (1, 5), (1, 2), (1, 2, 6), (5, 6), (1, 2, 3), (2, 6, 2), (1, 6, 1), (5, 1, 6, 2), (4, 1), (5, 4)):
                self.wrong(saying, (3, 0, False, run, kids), *marks, *dark)
            self.wrong(saying, (3, 0, False, None, (5, 1)), *marks, *dark)
            self.wrong(saying, (3, 0, True, run, (5, 1)), *marks, *dark)
        saying = BOTH + (("mark", "c"), ("all", "until", 2, 1))
        self.right(saying, (3, 0, False, ((), (0, 1)), (1, 2)), *marks, *dark)
        self.right(saying, (3, 1, False, ((1, 0, 1), (0, 1)), (2, 1)), *marks, *dark)
        self.wrong(saying, (3, 0, False, ((), (0, 1)), (2, 1)), *marks, *dark)
        self.wrong(saying, (3, 0, False, ((), (0, 1)), (1, 2, 1)), *marks, *dark)
        self.wrong(saying, (3, 0, False, ((), (0, 1)), (5, 6)), *marks, *dark)
        self.wrong(BOTH + (("mark", "c"), ("all", "unless", 2, 1)), (3, 0, False, ((), (0, 1)), (1, 2)), *marks, *dark)

    def test_walls_by_the_sets_handed_in(self):
        for word, forms in (("some", FORMS), ("all", FORMS)):
            for form, parts in forms:
                saying = BOTH + ((word, form, *(0, 1)[:parts]),)
                for told in ((), (0,), (0, 1, 2, 3), (2, 3)):
                    for standing in range(4):
                        node = (2, standing, word == "all", None, ())
                        so = (standing in told) == (word == "all")
                        self.assertEqual(self.both(saying, (node,), ((0, 1), (2, 3), told)), so)
                        # The sets of other rows are no matter.
                        self.assertEqual(self.both(saying, (node,), ((), (), told)), so)
                        self.wrong(saying, put(node, 3, ((), (2,))), sets=((), (), told))
                        self.wrong(saying, put(node, 4, (1,)), *self.marks((0, 0)), sets=((), (), told))

    def test_sets_are_asked_for_walls_alone(self):
        saying = BOTH + (("some", "until", 0, 1), ("step", 0), ("not", 0))
        none = ((),) * 5
        self.right(saying, *self.marks((0, 0), (1, 2)), sets=none)
        self.right(saying, *why(SMALL, saying, 0, row=2), sets=none)
        self.right(saying, *why(SMALL, saying, 1, row=3), sets=none)
        self.right(saying, *why(SMALL, saying, 2, row=4), sets=none)

    def test_what_a_right_tree_says_is_so(self):
        # Where a kid is a wall, the node on it stands by the sets.
        saying = BOTH + (("some", "ever", 1), ("not", 2))
        tree = ((3, 0, True, None, (1,)), (2, 0, False, None, ()))
        self.right(saying, *tree)
        self.wrong(saying, *tree, sets=((0, 1), (2, 3), (0, 2), ()))


class Trees(Cases):
    SAYING = BOTH + (("some", "until", 0, 1), ("all", "ever", 2), ("and", 2, 3))

    def test_nodes_in_another_order(self):
        sets = tell(SMALL, self.SAYING)
        for row in range(5):
            for standing in range(4):
                told = why(SMALL, self.SAYING, standing, row=row)
                many = len(told)
                for turn in range(many):
                    to = [(at + turn) % many for at in range(many)]
                    other = [None] * many
                    for at, node in enumerate(told):
                        other[to[at]] = put(node, 4, tuple(to[kid] for kid in node[4]))
                    self.right(self.SAYING, *other, sets=sets)

    def test_nodes_beside(self):
        told = why(SMALL, self.SAYING, 0)
        self.right(self.SAYING, *told, *self.marks((0, 3), (1, 3), (0, 3)))
        self.right(self.SAYING, *told, *told[:1])
        self.wrong(self.SAYING, *told, (0, 3, True, None, ()))
        self.right(self.SAYING, *self.marks((0, 3)))
        self.wrong(self.SAYING, *told[:1])

    def test_no_node_at_all(self):
        self.wrong(self.SAYING)
        for thing in ((), [], None, {}, "", 0, True):
            self.assertFalse(self.both(self.SAYING, thing))

    def test_a_kid_whose_row_is_not_of_a_lesser_number(self):
        saying = (("yes",), ("not", 0), ("not", 1))
        self.right(saying, (2, 0, True, None, (1,)), (1, 0, False, None, (2,)), (0, 0, True, None, ()))
        self.wrong(saying, (2, 0, True, None, (0,)))
        self.wrong(saying, (2, 0, False, None, (1,)), (2, 0, True, None, (0,)))
        self.wrong(saying, (1, 0, False, None, (1,)), (2, 0, True, None, (0,)))
        self.wrong(saying, (1, 0, False, None, (1,)), (1, 0, True, None, (0,)))

    def test_numbers_of_rows_standings_and_kids(self):
        saying = BOTH + (("not", 0),)
        for node in ((3, 0, True, None, ()), (-1, 0, True, None, ()), (0, 4, True, None, ()), (0, -4, True, None, ()),
                     (0, 40, True, None, ()), (2, 2, True, None, (2,)), (2, 2, True, None, (-1,)), (2, 2, True, None, (10 ** 999,))):
            self.wrong(saying, node, *self.marks((0, 2)))

    def test_true_and_false_and_numbers(self):
        saying = BOTH + (("not", 0), ("not", 1))
        mark = self.marks((1, 1))[0]
        self.right(saying, (3, 1, True, None, (1,)), mark)
        for node in ((3, True, True, None, (1,)), (3, 1, 1, None, (1,)), (3, 1, True, None, (True,)), (3, 1, True, False, (1,))):
            self.wrong(saying, node, mark)
        self.wrong(saying, (3, 1, True, None, (1,)), put(mark, 2, 0))
        self.wrong(saying, (3, 1, True, None, (1,)), put(mark, 0, True))
        self.wrong(saying, (3, 1, True, None, (1,)), put(mark, 1, True))
        self.wrong(saying, (False, 0, True, None, ()))
        self.wrong(saying, (0, False, True, None, ()))
        self.right(saying, (0, 0, True, None, ()))

    def test_anything_at_any_depth(self):
        right = 0
        saying = BOTH + (("some", "unless", 0, 1), ("all", "until", 1, 0), ("and", 2, 3), ("or", 4, 2))
        for standing in (0, 2):
            for thing in helper.changes(why(SMALL, saying, standing)):
                right += self.both(saying, thing)
        self.assertGreater(right, 10)

    def test_anything_at_any_depth_of_one_node(self):
        for saying, node in (((("yes",),), (0, 0, True, None, ())), (BOTH + (("some", "ever", 1),), (2, 0, False, None, ()))):
            for thing in helper.changes((node,)):
                self.both(saying, thing)

    def test_trees_of_other_sayings_and_machines(self):
        for chance in helper.chances(150):
            many = chance.randint(1, 4)
            one, other = helper.some_machine(chance, many), helper.some_machine(chance, many)
            saying = helper.some_saying(chance, 6)
            self.machine, self.wishes = one, helper.some_wishes(chance, chance.randint(0, 2))
            self.both(saying, why(other, saying, chance.randrange(many), wishes=self.wishes))
            self.both(saying, why(one, helper.some_saying(chance, 6), chance.randrange(many), wishes=self.wishes))
            self.both(saying, why(one, saying, chance.randrange(many)))


if __name__ == "__main__":
    unittest.main()
