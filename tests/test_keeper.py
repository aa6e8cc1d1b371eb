"""Points 3, 35, 36, 37 and 38: deeds, and the keeper that does and undoes them."""

import copy
import unittest

from fairtrees import errors
from fairtrees.deeds import after, is_deed
from fairtrees.errors import Broken, Full, Missing, NoDeed, Nothing, TooGreat, Twice
from fairtrees.keeper import Keeper
from fairtrees.machines import check
from fairtrees.telling import tell
from tests import helper
from tests.helper import put

MACHINE = (((1,), (0, 2), ()), (("a",), (), ("b",)))
SAYING = (("mark", "a"), ("some", "ever", 0), ("all", "once", 0), ("step", 0), ("not", 3))
WISHES = (("", "a"),)
EIGHT = tuple("abcdefgh")
NO_DEEDS = [
    (), ("put",), ("put", 0), ("put", 0, 0, 0), ["put", 0, 0], ("put", 0, 3), ("put", 3, 0), ("put", -1, 0), ("put", 0, -1),
    ("put", True, 0), ("put", 0, False), ("put", 0, "a"), ("put", "a", 0), ("put", None, 0), ("take", 0, 3), ("take", 0, "a"),
    ("take", True, 0), ("take", False, 1), ("take", 0, True), ("mark", 0, 0), ("mark", 3, "c"), ("mark", -1, "c"),
    ("mark", True, "c"), ("mark", 0, ""), ("mark", 0, "yes"), ("mark", 0, "some"), ("mark", 0, "C"), ("mark", 0, "abcdefghi"),
    ("mark", 0, ("c",)), ("mark", 0, b"c"), ("bare", 0, 0), ("bare", 0, ""), ("bare", 3, "a"), ("bare", False, "a"),
    ("bare", 0, "not"), ("back",), ("begin",), ("undone",), ("end",), ("", 0, 0), ("PUT", 0, 0), ("puts", 0, 0), (b"put", 0, 0),
    ("step", 0, 0), ("put", (0,), (0,)), ("put", 0, [0]), (("put", 0, 0),), "put", 0, None, {}, {"put": 0},
]


def plainly(machine, deed):
    """Tell the machine behind a deed that can be done."""
    word, one, what = deed
    steps, marks = ([set(row) for row in rows] for rows in machine)
    rows = steps if word in ("put", "take") else marks
    if word in ("put", "mark"):
        rows[one].add(what)
    else:
        rows[one].remove(what)
    return tuple(tuple(sorted(row)) for row in steps), tuple(tuple(sorted(row)) for row in marks)


def changed(old, new):
    """Tell the changes from the one row of sets to the other."""
    places = sorted((row, one) for row in range(len(old)) for one in set(old[row]) ^ set(new[row]))
    return tuple((row, one, one in new[row]) for row, one in places)


def some_deed(chance, machine):
    """Tell a deed that can mostly be done."""
    many = len(machine[0])
    one, other, name = chance.randrange(many), chance.randrange(many), chance.choice("abcd")
    if chance.random() < 0.5:
        return ("take" if other in machine[0][one] else "put", one, other)
    return ("bare" if name in machine[1][one] else "mark", one, name)


def state(keeper):
    return keeper.machine(), keeper.sets(), keeper.book(), len(keeper)


class Case(unittest.TestCase):
    def keeper(self, machine=MACHINE, saying=SAYING, wishes=WISHES):
        told = Keeper(machine, saying, wishes=wishes)
        self.assertEqual(state(told), (machine, tell(machine, saying, wishes=wishes), (), 0))
        return told

    def refused(self, keeper, call, *args):
        """Tell the refusal of what changes nothing."""
        kept = state(keeper)
        told = helper.refusal(call, *args)
        self.assertIsInstance(told, errors.TreeError, args)
        self.assertEqual(state(keeper), kept)
        return type(told)

    def done(self, keeper, deed, saying=SAYING, wishes=WISHES):
        """Tell the changes of a deed that is done as it has to be."""
        machine, sets, book, many = state(keeper)
        told = keeper.do(deed)
        self.assertTrue(type(told) is tuple and helper.is_plain(told))
        self.assertEqual(keeper.machine(), plainly(machine, deed))
        self.assertIs(check(keeper.machine()), True)
        self.assertEqual(keeper.sets(), tell(keeper.machine(), saying, wishes=wishes))
        self.assertEqual(told, changed(sets, keeper.sets()))
        self.assertEqual(keeper.book(), book + (deed,))
        self.assertEqual(len(keeper), many + 1)
        return told


class Deeds(unittest.TestCase):
    def test_what_is_a_deed(self):
        for deed in (("put", 0, 0), ("put", 2, 1), ("take", 0, 2), ("mark", 2, "c"), ("bare", 0, "abcdefgh")):
            self.assertIs(is_deed(MACHINE, deed), True)
        for thing in NO_DEEDS + helper.anything():
            self.assertIs(is_deed(MACHINE, thing), False, repr(thing)[:100])

    def test_what_it_does(self):
        self.assertEqual(after(MACHINE, ("put", 0, 0)), (((0, 1), (0, 2), ()), MACHINE[1]))
        self.assertEqual(after(MACHINE, ("take", 1, 0)), (((1,), (2,), ()), MACHINE[1]))
        self.assertEqual(after(MACHINE, ("mark", 2, "a")), (MACHINE[0], (("a",), (), ("a", "b"))))
        self.assertEqual(after(MACHINE, ("bare", 2, "b")), (MACHINE[0], (("a",), (), ())))


class Do(Case):
    def test_each_kind_of_deed(self):
        keeper = self.keeper()
        self.assertEqual(keeper.sets(), ((0,), (), (0, 1, 2), (1,), (0, 2)))
        self.assertEqual(self.done(keeper, ("put", 0, 0)), ((1, 0, True), (3, 0, True), (4, 0, False)))
        self.assertEqual(keeper.machine(), (((0, 1), (0, 2), ()), (("a",), (), ("b",))))
        self.done(keeper, ("take", 0, 1))
        self.assertEqual(self.done(keeper, ("mark", 1, "a")), ((0, 1, True), (1, 1, True)))
        self.assertEqual(self.done(keeper, ("bare", 0, "a")), (
            (0, 0, False), (1, 0, False), (1, 1, False), (3, 0, False), (3, 1, False), (4, 0, True), (4, 1, True)))
        self.assertEqual(keeper.machine(), (((0,), (0, 2), ()), ((), ("a",), ("b",))))
        self.assertEqual(keeper.book(), (("put", 0, 0), ("take", 0, 1), ("mark", 1, "a"), ("bare", 0, "a")))
        self.assertEqual(len(keeper), 4)

    def test_no_changes_where_nothing_changes(self):
        keeper = self.keeper()
        self.assertEqual(self.done(keeper, ("mark", 2, "c")), ())
        self.assertEqual(self.done(keeper, ("put", 2, 2)), ())
        self.assertEqual(len(keeper), 2)

    def test_changes_rise_by_row_and_standing(self):
        keeper = self.keeper(((tuple(range(5)),) * 5, ((),) * 5), wishes=())
        told = keeper.do(("mark", 4, "a"))
        self.assertEqual(told, tuple(sorted(told)))
        self.assertEqual([one[:2] for one in told], [(0, 4), (1, 4), (2, 4), (3, 0), (3, 1), (3, 2), (3, 3), (3, 4),
                                                     (4, 0), (4, 1), (4, 2), (4, 3), (4, 4)])

    def test_deeds_by_chance(self):
        for chance in helper.chances(40):
            machine = helper.some_machine(chance, chance.randint(1, 5))
            saying = helper.some_saying(chance, chance.randint(1, 12))
            wishes = helper.some_wishes(chance, chance.randint(0, 4))
            keeper = self.keeper(machine, saying, wishes)
            for _ in range(8):
                self.done(keeper, some_deed(chance, keeper.machine()), saying, wishes)

    def test_no_deed(self):
        keeper = self.keeper()
        for thing in NO_DEEDS + helper.anything():
            self.assertIs(self.refused(keeper, keeper.do, thing), NoDeed, repr(thing)[:100])
        for deed in (("put", 0, 0), ("take", 0, 1), ("mark", 0, "c"), ("bare", 0, "a")):
            for thing in helper.changes(deed):
                keeper = self.keeper()
                told = helper.refusal(keeper.do, thing)
                if isinstance(told, errors.TreeError):
                    self.assertEqual(state(keeper), state(self.keeper()))
                    self.assertEqual(type(told) is NoDeed, not is_deed(MACHINE, thing))
                else:
                    self.assertEqual(keeper.machine(), plainly(MACHINE, thing))

    def test_twice_and_missing(self):
        keeper = self.keeper()
        for deed in (("put", 0, 1), ("put", 1, 0), ("put", 1, 2), ("mark", 0, "a"), ("mark", 2, "b")):
            self.assertIs(self.refused(keeper, keeper.do, deed), Twice)
        for deed in (("take", 0, 0), ("take", 2, 1), ("take", 1, 1), ("bare", 0, "b"), ("bare", 1, "a"), ("bare", 2, "zz")):
            self.assertIs(self.refused(keeper, keeper.do, deed), Missing)

    def test_the_eighth_and_the_ninth_name(self):
        keeper = self.keeper((((0,), ()), (EIGHT, EIGHT[1:])))
        self.assertIs(self.refused(keeper, keeper.do, ("mark", 0, "zz")), TooGreat)
        # Twice is named ahead of it.
        self.assertIs(self.refused(keeper, keeper.do, ("mark", 0, "a")), Twice)
        self.assertIs(self.refused(keeper, keeper.do, ("mark", 0, "ZZ")), NoDeed)
        self.assertIs(self.refused(keeper, keeper.do, ("bare", 0, "zz")), Missing)
        self.done(keeper, ("mark", 1, "zz"))
        self.assertEqual(keeper.machine()[1][1], (*EIGHT[1:], "zz"))
        self.assertIs(self.refused(keeper, keeper.do, ("mark", 1, "a")), TooGreat)
        self.done(keeper, ("bare", 0, "c"))
        self.done(keeper, ("mark", 0, "zz"))
        self.done(keeper, ("put", 0, 1))

    def test_wishes_left_out(self):
        keeper = Keeper(MACHINE, SAYING)
        self.assertEqual(keeper.sets(), tell(MACHINE, SAYING))
        keeper.do(("take", 1, 0))
        self.assertEqual(keeper.sets(), tell(keeper.machine(), SAYING))

    def test_what_was_told_ahead_stays_as_it_was(self):
        keeper = self.keeper()
        told = [state(keeper)]
        kept = copy.deepcopy(told)
        for deed in (("put", 0, 0), ("mark", 1, "a"), ("take", 1, 2)):
            told.append((keeper.do(deed), state(keeper)))
            kept.append(copy.deepcopy(told[-1]))
        keeper.back()
        self.assertEqual(told, kept)
        self.assertEqual(MACHINE, (((1,), (0, 2), ()), (("a",), (), ("b",))))


class Batch(Case):
    def test_none_one_and_40_deeds(self):
        for many in (0, 1, 2, 39, 40, 41):
            keeper = self.keeper()
            deeds = tuple(("put" if number % 2 == 0 else "take", 2, 2) for number in range(many))
            told = keeper.batch(deeds)
            self.assertEqual(told, ())
            self.assertEqual(keeper.machine()[0][2], (2,) if many % 2 else ())
            self.assertEqual(keeper.book(), (("begin",), *deeds, ("end",)))
            self.assertEqual(len(keeper), 1)

    def test_changes_from_ahead_of_the_first_to_behind_the_last(self):
        keeper = self.keeper()
        told = keeper.batch((("put", 0, 0), ("bare", 0, "a"), ("mark", 2, "a"), ("mark", 0, "a"), ("bare", 2, "a")))
        self.assertEqual(told, ((1, 0, True), (3, 0, True), (4, 0, False)))
        self.assertEqual(keeper.machine(), (((0, 1), (0, 2), ()), MACHINE[1]))
        for chance in helper.chances(40):
            machine = helper.some_machine(chance, chance.randint(1, 5))
            wishes = helper.some_wishes(chance, chance.randint(0, 2))
            keeper, single = self.keeper(machine, wishes=wishes), self.keeper(machine, wishes=wishes)
            sets = keeper.sets()
            deeds = []
            for _ in range(chance.randint(0, 6)):
                deeds.append(some_deed(chance, single.machine()))
                single.do(deeds[-1])
            told = keeper.batch(tuple(deeds))
            self.assertTrue(type(told) is tuple and helper.is_plain(told))
            self.assertEqual(told, changed(sets, single.sets()))
            self.assertEqual((keeper.machine(), keeper.sets()), (single.machine(), single.sets()))

    def test_a_refused_deed_at_each_place(self):
        right = (("put", 0, 0), ("mark", 1, "c"), ("take", 1, 2), ("bare", 0, "a"))
        wrong = [(("put", 0, 1), Twice), (("mark", 2, "b"), Twice), (("take", 2, 0), Missing), (("bare", 0, "zz"), Missing),
                 (("put", 0, 3), NoDeed), (["put", 2, 2], NoDeed), (None, NoDeed), ((), NoDeed), (("back",), NoDeed),
                 ({}, NoDeed), (helper.Sore(), NoDeed), (helper.Greedy(), NoDeed)]
        for deed, kind in wrong:
            for number in range(5):
                keeper = self.keeper()
                with self.assertRaises(Broken) as caught:
                    keeper.batch(right[:number] + (deed,) + right[number:])
                self.assertIs(type(caught.exception), Broken)
                self.assertEqual(caught.exception.number, number)
                self.assertIs(type(caught.exception.__cause__), kind)
                self.assertEqual((keeper.machine(), keeper.sets()), (MACHINE, tell(MACHINE, SAYING, wishes=WISHES)))
                self.assertEqual(keeper.book(), (("begin",), *right[:number], ("undone",), ("end",)))
                self.assertEqual(len(keeper), 0)

    def test_what_a_deed_of_the_batch_brings_in_is_there_for_the_next(self):
        keeper = self.keeper((((0,),), (EIGHT[:7],)))
        with self.assertRaises(Broken) as caught:
            keeper.batch((("mark", 0, "zz"), ("bare", 0, "a"), ("mark", 0, "a"), ("mark", 0, "yy")))
        self.assertEqual(caught.exception.number, 3)
        self.assertIs(type(caught.exception.__cause__), TooGreat)
        with self.assertRaises(Broken) as caught:
            keeper.batch((("take", 0, 0), ("take", 0, 0)))
        self.assertEqual(caught.exception.number, 1)
        self.assertIs(type(caught.exception.__cause__), Missing)
        with self.assertRaises(Broken) as caught:
            keeper.batch((("mark", 0, "zz"), ("mark", 0, "zz")))
        self.assertIs(type(caught.exception.__cause__), Twice)
        self.assertEqual(keeper.machine(), (((0,),), (EIGHT[:7],)))
        keeper.batch((("mark", 0, "zz"), ("bare", 0, "a")))
        self.assertEqual(keeper.machine()[1], (("b", "c", "d", "e", "f", "g", "zz"),))

    def test_anything_in_the_place_of_a_deed(self):
        for thing in helper.anything() + NO_DEEDS:
            keeper = self.keeper()
            with self.assertRaises(Broken) as caught:
                keeper.batch((("put", 0, 0), thing, thing))
            self.assertEqual(caught.exception.number, 1)
            self.assertIs(type(caught.exception.__cause__), NoDeed)


class Back(Case):
    def test_of_a_deed(self):
        keeper = self.keeper()
        self.assertEqual(keeper.do(("put", 0, 0)), ((1, 0, True), (3, 0, True), (4, 0, False)))
        told = keeper.back()
        self.assertTrue(type(told) is tuple and helper.is_plain(told))
        self.assertEqual(told, ((1, 0, False), (3, 0, False), (4, 0, True)))
        self.assertEqual(state(keeper), (MACHINE, tell(MACHINE, SAYING, wishes=WISHES), (("put", 0, 0), ("back",)), 0))
        self.assertIs(self.refused(keeper, keeper.back), Nothing)

    def test_of_a_batch_and_of_an_empty_one(self):
        keeper = self.keeper()
        first = keeper.batch((("put", 0, 0), ("mark", 1, "a")))
        self.assertEqual(keeper.batch(()), ())
        self.assertEqual(len(keeper), 2)
        self.assertEqual(keeper.back(), ())
        self.assertEqual(len(keeper), 1)
        self.assertEqual(keeper.machine(), (((0, 1), (0, 2), ()), (("a",), ("a",), ("b",))))
        self.assertEqual(keeper.back(), tuple((row, one, not truth) for row, one, truth in first))
        self.assertEqual((keeper.machine(), len(keeper)), (MACHINE, 0))
        self.assertEqual(keeper.book(), (("begin",), ("put", 0, 0), ("mark", 1, "a"), ("end",), ("begin",), ("end",),
                                         ("back",), ("back",)))
        self.assertIs(self.refused(keeper, keeper.back), Nothing)

    def test_behind_a_broken_batch(self):
        keeper = self.keeper()
        keeper.do(("put", 0, 0))
        with self.assertRaises(Broken):
            keeper.batch((("mark", 1, "a"), ("put", 0, 0)))
        self.assertEqual(len(keeper), 1)
        keeper.back()
        self.assertEqual((keeper.machine(), len(keeper)), (MACHINE, 0))
        self.assertEqual(keeper.book(), (("put", 0, 0), ("begin",), ("mark", 1, "a"), ("undone",), ("end",), ("back",)))
        self.assertIs(self.refused(keeper, keeper.back), Nothing)
        fresh = self.keeper()
        with self.assertRaises(Broken):
            fresh.batch((None,))
        self.assertEqual(fresh.book(), (("begin",), ("undone",), ("end",)))
        self.assertIs(self.refused(fresh, fresh.back), Nothing)

    def test_behind_another_back(self):
        keeper = self.keeper()
        for deed in (("put", 0, 0), ("mark", 1, "a")):
            keeper.do(deed)
        keeper.back()
        self.assertEqual(keeper.machine(), (((0, 1), (0, 2), ()), MACHINE[1]))
        keeper.do(("mark", 2, "c"))
        self.assertEqual(len(keeper), 2)
        keeper.back()
        keeper.back()
        self.assertEqual((keeper.machine(), len(keeper)), (MACHINE, 0))
        self.assertEqual(keeper.book(), (("put", 0, 0), ("mark", 1, "a"), ("back",), ("mark", 2, "c"), ("back",), ("back",)))

    def test_all_of_it_by_chance(self):
        for chance in helper.chances(60):
            machine = helper.some_machine(chance, chance.randint(1, 4))
            saying, wishes = helper.some_saying(chance, 6), helper.some_wishes(chance, 2)
            keeper = self.keeper(machine, saying, wishes)
            stack, book = [machine], []
            for _ in range(14):
                ahead = keeper.sets()
                turn = chance.random()
                deeds, at = [], stack[-1]
                for _ in range(chance.choice([0, 1, 2, 4]) if turn < 0.5 else 1):
                    deeds.append(some_deed(chance, at))
                    at = plainly(at, deeds[-1])
                if turn < 0.35:
                    told = keeper.batch(tuple(deeds))
                    book += [("begin",), *deeds, ("end",)]
                    stack.append(at)
                elif turn < 0.5:
                    broken = helper.refusal(keeper.batch, (*deeds, ("put", 0, 9), *deeds))
                    self.assertEqual((type(broken), broken.number), (Broken, len(deeds)))
                    book += [("begin",), *deeds, ("undone",), ("end",)]
                    told = ()
                elif turn < 0.75:
                    told = keeper.do(deeds[0])
                    book += deeds
                    stack.append(at)
                elif len(stack) > 1:
                    told = keeper.back()
                    book += [("back",)]
                    stack.pop()
                else:
                    self.assertIs(self.refused(keeper, keeper.back), Nothing)
                    told = ()
                sets = tell(stack[-1], saying, wishes=wishes)
                self.assertEqual(told, changed(ahead, sets))
                self.assertEqual(state(keeper), (stack[-1], sets, tuple(book), len(stack) - 1))


class Book(Case):
    def full_to(self, many):
        """Tell a keeper whose book has so many entries, by single deeds."""
        keeper = self.keeper(saying=(("mark", "a"),))
        for number in range(many):
            keeper.do(("put" if number % 2 == 0 else "take", 2, 2))
        self.assertEqual(len(keeper.book()), many)
        return keeper

    def is_full(self, keeper):
        for thing in (("put", 0, 0), ("put", 0, 1), ("take", 0, 0), None, (), [], helper.Sore(), ("mark", 0, "a")):
            self.assertIs(self.refused(keeper, keeper.do, thing), Full)
        for things in ((), (("put", 0, 0),), (None,), (("put", 0, 1), None)):
            self.assertIs(self.refused(keeper, keeper.batch, things), Full)
        self.assertIs(self.refused(keeper, keeper.back), Full)

    def test_at_299_and_at_300_by_single_deeds(self):
        keeper = self.full_to(299)
        self.assertIs(self.refused(keeper, keeper.do, None), NoDeed)
        keeper.do(("take", 0, 1))
        self.assertEqual((len(keeper.book()), len(keeper)), (300, 300))
        self.is_full(keeper)
        keeper = self.full_to(299)
        keeper.back()
        self.assertEqual((len(keeper.book()), len(keeper)), (300, 298))
        self.is_full(keeper)

    def test_by_a_batch_that_goes_beyond(self):
        keeper = self.full_to(299)
        deeds = tuple(("mark" if number % 2 == 0 else "bare", 0, "c") for number in range(40))
        keeper.batch(deeds)
        self.assertEqual((len(keeper.book()), len(keeper)), (341, 300))
        self.is_full(keeper)
        keeper = self.full_to(299)
        keeper.batch(())
        self.assertEqual(len(keeper.book()), 301)
        self.is_full(keeper)

    def test_by_broken_batches(self):
        keeper = self.keeper(saying=(("mark", "a"),))
        for number in range(100):
            self.assertEqual(len(keeper.book()), 3 * number)
            self.assertIs(type(helper.refusal(keeper.batch, (None,))), Broken)
        self.assertEqual((len(keeper.book()), len(keeper)), (300, 0))
        # Full comes ahead of Nothing too.
        self.is_full(keeper)
        keeper = self.full_to(298)
        self.assertIs(type(helper.refusal(keeper.batch, (("mark", 0, "c"), None))), Broken)
        self.assertEqual(keeper.book()[298:], (("begin",), ("mark", 0, "c"), ("undone",), ("end",)))
        self.is_full(keeper)

    def test_other_refusals_leave_no_trace(self):
        keeper = self.keeper()
        for _ in range(400):
            self.assertIs(type(helper.refusal(keeper.do, ("put", 0, 1))), Twice)
            self.assertIs(type(helper.refusal(keeper.back)), Nothing)
        self.assertEqual(keeper.book(), ())
        keeper.do(("put", 0, 0))
        self.assertEqual(keeper.book(), (("put", 0, 0),))

    def test_a_told_book_stays_as_it_was(self):
        keeper = self.keeper()
        told = keeper.book()
        self.assertEqual(told, ())
        keeper.do(("put", 0, 0))
        self.assertEqual(told, ())
        self.assertTrue(helper.is_plain(keeper.book()))


class Several(Case):
    def test_two_keepers_of_one_machine(self):
        one, other = self.keeper(), self.keeper()
        one.do(("put", 0, 0))
        self.assertEqual(state(other), state(self.keeper()))
        other.batch((("bare", 0, "a"),))
        other.do(("mark", 1, "a"))
        self.assertEqual((one.book(), len(one)), ((("put", 0, 0),), 1))
        self.assertEqual(one.machine(), (((0, 1), (0, 2), ()), MACHINE[1]))
        one.back()
        self.assertEqual(one.machine(), MACHINE)
        self.assertEqual(len(other), 2)
        self.assertEqual(other.machine()[1], ((), ("a",), ("b",)))

    def test_two_keepers_of_unlike_machines_and_sayings(self):
        one, other = self.keeper(), self.keeper((((0,),), ((),)), (("mark", "b"), ("all", "ever", 0)), ())
        self.assertEqual(other.do(("mark", 0, "b")), ((0, 0, True), (1, 0, True)))
        self.assertEqual(one.do(("bare", 0, "a"))[0], (0, 0, False))
        self.assertIs(self.refused(other, other.do, ("put", 0, 1)), NoDeed)
        self.assertEqual(other.sets(), ((0,), (0,)))

    def test_the_same_deeds_are_answered_equally(self):
        deeds = [("put", 0, 0), ("mark", 1, "a"), ("take", 1, 2), ("bare", 0, "a"), ("put", 2, 0)]
        one = self.keeper()
        told = [one.do(deed) for deed in deeds]
        other = self.keeper()
        self.assertEqual([other.do(deed) for deed in deeds], told)
        self.assertEqual(state(one), state(other))
        self.assertEqual([one.back() for _ in deeds], [other.back() for _ in deeds])
        self.assertEqual(put(state(one), 2, 0), put(state(self.keeper()), 2, 0))


if __name__ == "__main__":
    unittest.main()
