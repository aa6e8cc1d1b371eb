"""Points 1, 2 and 3: the whole way from a program to a keeper, and each refusal by its own class."""

import unittest

from fairtrees import classes, errors, evidence, games, layouts, machines, making, notes, papers, partings, programs, rounds
from fairtrees import runs, sayings, sheets, sides, telling, trees, walks, ways
from fairtrees.keeper import Keeper
from tests import helper
from tests.test_errors import REFUSALS

# Two who want in, and one key; whoever has the key goes on or gives it back.
PROGRAM = (
    (("one", 3, 0), ("other", 3, 0), ("key", 2, 1)),
    (
        ("want", (("one", "is", 0),), (("one", 1),)),
        ("take", (("one", "is", 1), ("key", "is", 1)), (("one", 2), ("key", 0))),
        ("give", (("one", "is", 2),), (("one", 0), ("key", 1))),
        ("wantx", (("other", "is", 0),), (("other", 1),)),
        ("takex", (("other", "is", 1), ("key", "is", 1)), (("other", 2), ("key", 0))),
        ("givex", (("other", "is", 2),), (("other", 0), ("key", 1))),
    ),
    (("wait", ((("one", "is", 1),),)), ("in", ((("one", "is", 2),),)), ("outx", ((("other", "is", 0),),)),
     ("both", ((("one", "is", 2), ("other", "is", 2)),)), ("free", ((("key", "is", 1),),))),
    False,
)
WISHES = [(), (("wait", "in"),), (("", "in"), ("", "outx")), (("wait", "in"), ("", "outx")), (("", "both"),)]
TEXTS = ["all ever not both", "all once in", "all until yes in", "some ever wait", "all ever some once in",
         "not some unless wait free", "and step wait all next or free in"]


class Whole(unittest.TestCase):
    def way(self, machine, saying, wishes):
        """Go the whole way with one machine, where all of it agrees; tell where the saying holds."""
        self.assertEqual(notes.read_machine(notes.machine_text(machine)), machine)
        sets = telling.tell(machine, saying, wishes=wishes)
        for way in (ways.Rounds(), ways.Worklist()):
            self.assertEqual(telling.tell(machine, saying, wishes=wishes, way=way), sets)
        paper = papers.paper(machine, saying, wishes=wishes)
        self.assertTrue(papers.right_paper(machine, saying, paper, wishes=wishes))
        self.assertEqual(paper[0], sets)
        for standing in range(len(machine[0])):
            tree = trees.why(machine, saying, standing, wishes=wishes)
            self.assertTrue(trees.right_tree(machine, saying, sets, tree, wishes=wishes))
            self.assertEqual(tree[0][:3], (len(saying) - 1, standing, standing in sets[-1]))
        self.by_sheet(machine, saying, wishes, sets)
        self.by_classes(machine, saying, wishes, sets)
        self.by_keeper(machine, saying, wishes, sets)
        return sets[-1]

    def by_sheet(self, machine, saying, wishes, sets):
        if len(saying) > 6 or len(wishes) > 2:
            return
        sheet = making.sheet_of(saying, wishes=wishes)
        self.assertTrue(sheets.check(sheet))
        self.assertEqual(rounds.by_rounds(machine, sheet)[0], sets[-1])
        self.assertEqual(games.by_games(machine, sheet)[0], sets[-1])
        told = sides.sheet_paper(machine, sheet)
        self.assertTrue(sides.right_sheet_paper(machine, sheet, told))
        self.assertEqual(tuple(entry[1] for entry in told[0] if entry[0] == 0), sets[-1])

    def by_classes(self, machine, saying, wishes, sets):
        told = classes.classes(machine)
        self.assertTrue(classes.right_classes(machine, told))
        row = told[0]
        other = telling.tell(classes.quotient(machine, row), saying, wishes=wishes)
        for one, homes in zip(sets, other):
            self.assertEqual(one, tuple(standing for standing, home in enumerate(row) if home in homes))
        for standing in range(len(row)):
            alone = telling.tell(machine, partings.saying_of(machine, standing), wishes=wishes)[-1]
            self.assertEqual(alone, tuple(one for one in range(len(row)) if classes.alike(machine, one, standing)))

    def by_keeper(self, machine, saying, wishes, sets):
        # From a machine without a step and a mark, deed by deed, to this one.
        many = len(machine[0])
        bare = (((),) * many, ((),) * many)
        keeper = Keeper(bare, saying, wishes=wishes)
        ahead = keeper.sets()
        truths = {(row, one): one in ahead[row] for row in range(len(saying)) for one in range(many)}
        deeds = [("put", one, other) for one, row in enumerate(machine[0]) for other in row]
        deeds += [("mark", one, name) for one, row in enumerate(machine[1]) for name in row]
        for deed in deeds[:10]:
            truths.update({(row, one): truth for row, one, truth in keeper.do(deed)})
        for at in range(10, len(deeds), 40):
            truths.update({(row, one): truth for row, one, truth in keeper.batch(tuple(deeds[at:at + 40]))})
        self.assertEqual((keeper.machine(), keeper.sets()), (machine, sets))
        self.assertEqual([place for place in truths if truths[place]],
                         [(row, one) for row, told in enumerate(sets) for one in told])
        while len(keeper):
            keeper.back()
        self.assertEqual((keeper.machine(), keeper.sets()), (bare, ahead))

    def test_two_who_want_in(self):
        programs.check(PROGRAM)
        laid = layouts.lay(PROGRAM)
        self.assertTrue(layouts.right_layout(PROGRAM, laid))
        machine = laid[0]
        self.assertTrue(machines.check(machine))
        told = {}
        for wishes in WISHES:
            machines.check_wishes(wishes)
            for text in TEXTS:
                saying = notes.read(text)
                self.assertTrue(sayings.check(saying))
                self.assertEqual(notes.text_of(saying), text)
                told[(text, wishes)] = self.way(machine, saying, wishes)
        everywhere = tuple(range(len(machine[0])))
        waiting = machines.bearers(machine, "wait")
        # Never are both in; whoever waits comes in only where it is wished for; and nobody ever bears both.
        for wishes in WISHES:
            self.assertEqual(told[("all ever not both", wishes)], everywhere)
        self.assertEqual(set(told[("all once in", WISHES[0])]) & set(waiting), set())
        self.assertEqual(told[("all once in", WISHES[2])], everywhere)
        self.assertEqual(set(waiting) - set(told[("all once in", WISHES[1])]), set())
        self.assertEqual(told[("some ever wait", WISHES[4])], ())
        self.assertEqual(told[("all once in", WISHES[4])], everywhere)

    def test_machines_by_chance(self):
        for chance in helper.chances(40):
            machine = helper.some_machine(chance, chance.randint(1, 6))
            saying = helper.some_saying(chance, chance.choice([3, 6, 12]))
            self.way(machine, saying, helper.some_wishes(chance, chance.randint(0, 4)))

    def test_evidence_and_runs_of_a_tree(self):
        machine = layouts.lay(PROGRAM)[0]
        saying = notes.read("some ever wait")
        tree = trees.why(machine, saying, telling.tell(machine, saying)[-1][0])
        run = tree[0][3]
        self.assertTrue(runs.right_run(machine, run) and runs.is_fair(machine, run))
        self.assertTrue(runs.holds_on(("ever", machines.bearers(machine, "wait")), run))
        within = machines.bearers(machine, "wait")
        told = evidence.evidence(machine, within, ())
        self.assertTrue(evidence.right_evidence(machine, within, (), told))


class Refusals(unittest.TestCase):
    def refusals(self):
        """Tell for each class of refusals a call that is refused by it, and for some of them more."""
        machine = (((0,), (0,)), (tuple("abcdefgh"), ()))
        saying = (("yes",),)

        def full():
            keeper = Keeper(machine, saying)
            while True:
                keeper.batch(())

        return {
            "NoMachine": lambda: machines.check(()), "NoWishes": lambda: machines.check_wishes(0),
            "NoProgram": lambda: programs.check(None), "NoSaying": lambda: sayings.check(()), "NoText": lambda: notes.read(""),
            "NoRun": lambda: runs.Run((), ()), "NoWay": lambda: ways.Way().ever(machine, ()),
            "NoSheet": lambda: sheets.check(()), "NoPaper": lambda: classes.quotient(machine, ()),
            "NoDeed": lambda: Keeper(machine, saying).do(0), "Twice": lambda: Keeper(machine, saying).do(("put", 0, 0)),
            "Missing": lambda: Keeper(machine, saying).do(("take", 0, 1)), "Nothing": lambda: Keeper(machine, saying).back(),
            "Full": full, "Broken": lambda: Keeper(machine, saying).batch((0,)),
            "TooGreat": lambda: Keeper(machine, saying).do(("mark", 0, "zz")),
            "TooMany": lambda: walks.walks((((0, 1), (0, 1)), ((), ())), 0, 60),
            "AreAlike": lambda: partings.parting(machine, 0, 0),
        }, {
            "TooGreat": [lambda: making.sheet_of(saying * 7), lambda: layouts.lay(PROGRAM, most=1),
                         lambda: notes.text_of(saying + tuple(("and", one, one) for one in range(20)))],
        }

    def test_each_is_taken_by_its_own_class_and_no_other(self):
        calls, more = self.refusals()
        self.assertEqual(sorted(calls), sorted(REFUSALS))
        for name in REFUSALS:
            for call in [calls[name], *more.get(name, [])]:
                with self.assertRaises(errors.TreeError) as caught:
                    call()
                self.assertIsInstance(caught.exception, ValueError)
                for other in REFUSALS:
                    self.assertEqual(isinstance(caught.exception, getattr(errors, other)), other == name, (name, other))


if __name__ == "__main__":
    unittest.main()
