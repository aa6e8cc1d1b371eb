"""Points 3, 28 and 29: sides of a sheet, papers of two sides, and their judges."""

import itertools
import unittest

from fairtrees.rounds import by_rounds
from fairtrees.sheets import check, opposite
from fairtrees.sides import right_sheet_paper, right_side, sheet_paper
from tests import helper
from tests.helper import put
from tests.test_rounds import AGAIN, ALL, CHAIN, MACHINE, ONCE, RING, wide_sheet
from tests.test_sheets import ORDINARY, ring

# 0 and 1 lead to one another, 2 to 1 and to 3, 3 to nobody.
SMALL = (((1,), (0,), (1, 3), ()), ((), ("a",), (), ("b",)))
# Row 0 is the outer point, row 1 the inner one: on some run a again and again.
SIDE = (
    (0, 0, -1, ()), (0, 1, -1, ()), (0, 2, -1, ()),
    (1, 0, -1, ((1, 2),)), (1, 1, -1, ((1, 1),)), (1, 2, -1, ((1, 2),)),
    (2, 0, 4, ((1, 1),)), (2, 1, 3, ()), (2, 2, 4, ((1, 1),)),
    (3, 1, -1, ()),
    (4, 0, 1, ((1, 1),)), (4, 1, 0, ((1, 2),)), (4, 2, 1, ((1, 1),)),
    (5, 1, -1, ()),
    (6, 0, 1, ()), (6, 1, 0, ()), (6, 2, 1, ()),
)


def led_to(sheet, number):
    word, inner = sheet[number]
    return () if word in ("mark", "bare") else inner if word in ("and", "or") else (inner,)


def parts_of(sheet):
    """Tell for each row the set of the rows of its part."""
    numbers = range(len(sheet))
    pairs = helper.leads((tuple(tuple(sorted(set(led_to(sheet, number)))) for number in numbers), None), numbers)
    return [{one} | {other for other in numbers if (one, other) in pairs and (other, one) in pairs} for one in numbers]


def judge_entry(machine, sheet, parts, thing):
    if type(thing) is not tuple or len(thing) != 4 or any(type(one) is not int for one in thing[:3]):
        return False
    number, standing, choice, ranks = thing
    if not 0 <= number < len(sheet) or not 0 <= standing < len(machine[0]) or type(ranks) is not tuple:
        return False
    word, inner = sheet[number]
    if word == "mark" and inner not in machine[1][standing] or word == "bare" and inner in machine[1][standing]:
        return False
    if not (choice in inner if word == "or" else choice in machine[0][standing] if word == "some" else choice == -1):
        return False
    for pair in ranks:
        if type(pair) is not tuple or len(pair) != 2 or type(pair[0]) is not int or type(pair[1]) is not int:
            return False
        if pair[0] not in parts[number] or sheet[pair[0]][0] != "least" or pair[1] < 1:
            return False
    leasts = [pair[0] for pair in ranks]
    return leasts == sorted(set(leasts))


def judge_side(machine, sheet, thing):
    """Say whether the thing is a side, sentence by sentence."""
    parts = parts_of(sheet)
    if type(thing) is not tuple or not all(judge_entry(machine, sheet, parts, entry) for entry in thing):
        return False
    places = [entry[:2] for entry in thing]
    if places != sorted(set(places)):
        return False
    entries = {entry[:2]: entry for entry in thing}
    for number, standing, choice, ranks in thing:
        word, inner = sheet[number]
        leans = {
            "mark": [], "bare": [], "or": [(choice, standing)], "some": [(inner, choice)],
            "and": [(other, standing) for other in inner] if word == "and" else None,
            "all": [(inner, other) for other in machine[0][standing]],
        }.get(word, [(inner, standing)])
        for place in leans:
            if place not in entries:
                return False
            if place[0] not in parts[number]:
                continue
            for least in [one for one in parts[number] if sheet[one][0] == "least"]:
                if word in ("least", "greatest") and number < least:
                    continue
                mine, other = dict(ranks).get(least, 0), dict(entries[place][3]).get(least, 0)
                if mine < other or number == least and mine == other:
                    return False
    return True


def judge_paper(machine, sheet, thing):
    """Say whether the thing is a paper of the sheet, sentence by sentence."""
    if type(thing) is not tuple or len(thing) != 2:
        return False
    if not judge_side(machine, sheet, thing[0]) or not judge_side(machine, opposite(sheet), thing[1]):
        return False
    places = [[entry[:2] for entry in side] for side in thing]
    return all((place in places[0]) != (place in places[1])
               for place in itertools.product(range(len(sheet)), range(len(machine[0]))))


def sets_of(machine, sheet, side):
    return tuple(tuple(entry[1] for entry in side if entry[0] == number) for number in range(len(sheet)))


class Case(unittest.TestCase):
    def both(self, thing, sheet=AGAIN, machine=SMALL):
        """Tell what the judge says, where the other judge says so too, and what is let by is so."""
        told = right_side(machine, sheet, thing)
        self.assertIs(told, judge_side(machine, sheet, thing), repr(thing)[:300])
        if told:
            sets = by_rounds(machine, sheet)
            self.assertEqual([entry for entry in thing if entry[1] not in sets[entry[0]]], [])
        return told

    def both_papers(self, thing, sheet=AGAIN, machine=SMALL):
        told = right_sheet_paper(machine, sheet, thing)
        self.assertIs(told, judge_paper(machine, sheet, thing), repr(thing)[:300])
        if told:
            self.assertEqual(sets_of(machine, sheet, thing[0]), by_rounds(machine, sheet))
        return told


class Side(Case):
    def without(self, *places):
        return tuple(entry for entry in SIDE if entry[:2] not in places)

    def with_entry(self, *entry):
        return tuple(sorted([*self.without(entry[:2]), entry]))

    def test_an_ordinary_one(self):
        self.assertTrue(self.both(SIDE))
        self.assertEqual(sets_of(SMALL, AGAIN, SIDE), by_rounds(SMALL, AGAIN))

    def test_no_entries(self):
        for machine in (SMALL, MACHINE, RING):
            for sheet in (AGAIN, ONCE, ORDINARY):
                self.assertTrue(self.both((), sheet, machine))

    def test_entries_that_do_not_rise(self):
        for at in range(len(SIDE) - 1):
            self.assertFalse(self.both(SIDE[:at] + (SIDE[at + 1], SIDE[at]) + SIDE[at + 2:]))
            self.assertFalse(self.both(SIDE[:at] + (SIDE[at],) + SIDE[at:]))
        self.assertFalse(self.both(SIDE[::-1]))
        self.assertFalse(self.both(SIDE + SIDE))
        # Twice with other words is twice, too.
        self.assertFalse(self.both(SIDE[:4] + ((1, 0, -1, ((1, 3),)),) + SIDE[4:]))

    def test_an_entry_left_out(self):
        for entry in SIDE:
            # On these four no other entry leans.
            self.assertEqual(self.both(self.without(entry[:2])), entry[:2] in ((0, 2), (4, 1), (6, 0), (6, 2)), entry)

    def test_fewer_entries_that_lean_on_one_another(self):
        self.assertTrue(self.both(self.without((0, 2), (6, 2))))
        self.assertTrue(self.both(self.without((4, 1), (0, 2))))
        self.assertTrue(self.both(tuple(entry for entry in SIDE if entry[1] != 2)))
        self.assertTrue(self.both(((5, 1, -1, ()),)))
        self.assertFalse(self.both(((3, 1, -1, ()), (5, 1, -1, ()))))

    def test_choices(self):
        for choice in (0, 1, 2, 5, 6, 7, -1, True, False, None, "3", (3,), 3):
            self.assertEqual(self.both(self.with_entry(2, 1, choice, ())), choice == 3 and choice is not True, choice)
        for choice in (0, 2, 3, 4, -1, True, False, None):
            self.assertFalse(self.both(self.with_entry(4, 0, choice, ((1, 1),))), choice)
            self.assertFalse(self.both(self.with_entry(6, 0, choice, ())), choice)

    def test_another_right_choice(self):
        # On a ring of two, a comes at 1; at 2 either way leads there.
        machine = (((1,), (0,), (0, 1)), ((), ("a",), ()))
        for choice, many in ((0, 3), (1, 2)):
            side = ((0, 0, -1, ((0, 2),)), (0, 1, -1, ((0, 1),)), (0, 2, -1, ((0, many),)), (1, 0, 3, ((0, 1),)),
                    (1, 1, 2, ()), (1, 2, 3, ((0, many - 1),)), (2, 1, -1, ()), (3, 0, 1, ((0, 1),)),
                    (3, 2, choice, ((0, many - 1),)))
            self.assertTrue(self.both(side, ONCE, machine))
            self.assertEqual(self.both(put(side, 8, (3, 2, 1 - choice, ((0, many - 1),))), ONCE, machine), choice == 0)

    def test_a_choice_where_minus_one_is_due(self):
        for entry in SIDE:
            if entry[2] == -1:
                for choice in (0, 1, 2, 3, -2, True, False, None, "", ()):
                    self.assertFalse(self.both(self.with_entry(*entry[:2], choice, entry[3])), (entry, choice))

    def test_marks(self):
        sheet = (("mark", "a"), ("bare", "a"), ("mark", "zz"), ("bare", "zz"))
        for number in range(4):
            for standing in range(4):
                told = self.both(((number, standing, -1, ()),), sheet)
                self.assertEqual(told, standing in by_rounds(SMALL, sheet)[number])

    def test_rows_and_standings_that_are_not_there(self):
        sheet = (("and", ()), ("or", ()))
        for number in (0, 1, 2, -1, -2, True, False, None, "0", (0,)):
            for standing in (0, 3, 4, -1, True, False, None, "0", (0,)):
                told = self.both(((number, standing, -1, ()),), sheet)
                self.assertEqual(told, type(number) is int and number == 0 and type(standing) is int and standing in (0, 3))

    def test_ranks(self):
        wrong = 0
        for at, entry in enumerate(SIDE):
            for ranks in ((), ((1, 1),), ((1, 2),), ((1, 3),), ((1, 10 ** 999),), ((1, 0),), ((1, -1),), ((0, 1),), ((2, 1),),
                          ((7, 1),), ((-1, 1),), ((1, 1), (1, 1)), ((1, 1), (1, 2)), ((1, 2), (1, 1)), ((1, True),),
                          ((True, 1),), (1, 1), ((1,),), ((1, 1, 1),), [(1, 1)], ([1, 1],), None, 0, "", ((1, None),)):
                wrong += not self.both(put(SIDE, at, (*entry[:3], ranks)))
        self.assertGreater(wrong, 250)
        # In a point of lesser number they are free, but for what leans on it; in another part they have no place.
        self.assertTrue(self.both(self.with_entry(0, 2, -1, ((1, 7),))))
        self.assertFalse(self.both(self.with_entry(0, 0, -1, ((1, 7),))))
        self.assertFalse(self.both(self.with_entry(5, 1, -1, ((1, 7),))))

    def test_greater_numbers_than_are_needed(self):
        many = {(1, 0): 9, (1, 1): 5, (1, 2): 9, (2, 0): 8, (2, 1): 2, (2, 2): 7, (3, 1): 1, (4, 0): 6, (4, 1): 11, (4, 2): 5,
                (6, 1): 1}
        side = tuple((*entry[:3], ((1, many[entry[:2]]),) if entry[:2] in many else ()) for entry in SIDE)
        self.assertTrue(self.both(side))
        for place in many:
            for less in range(many[place]):
                lower = {**many, place: less}
                self.both(tuple((*entry[:3], ((1, lower[entry[:2]]),) if lower.get(entry[:2]) else ()) for entry in SIDE))

    def test_not_greater_where_the_row_is_the_least_row_itself(self):
        self.assertFalse(self.both(self.with_entry(1, 0, -1, ((1, 1),))))
        self.assertFalse(self.both(self.with_entry(1, 1, -1, ())))
        # Elsewhere it need not be greater, but not less.
        self.assertFalse(self.both(self.with_entry(2, 0, 4, ())))
        self.assertTrue(self.both(self.with_entry(4, 1, 0, ((1, 2),))))
        self.assertFalse(self.both(self.with_entry(4, 1, 0, ((1, 1),))))

    def test_where_an_outer_point_is_passed_ranks_are_not_compared(self):
        self.assertTrue(self.both(SIDE))
        # Row 6 does not have the ranks of row 0, which has none of those of row 1 on which it leans.
        self.assertEqual(dict(((entry[:2], entry[3]) for entry in SIDE))[(0, 0)], ())
        # Were the least row the outer one, they would be.
        sheet = put(put(AGAIN, 0, ("least", 1)), 1, ("greatest", 2))
        for ranks in ((), ((0, 1),), ((0, 2),)):
            self.assertFalse(self.both(tuple((*entry[:3], ranks if entry[0] < 5 else ()) for entry in SIDE), sheet))

    def test_other_rows_of_lesser_number_are_compared(self):
        # Rows 0 and 1 are no points, row 2 is the least one; 3 and 4 come behind it.
        sheet = (("or", (4, 1)), ("some", 2), ("least", 0), ("greatest", 3), ("mark", "a"))
        side = ((0, 0, 1, ((2, 1),)), (0, 1, 4, ()), (1, 0, 1, ((2, 1),)), (2, 0, -1, ((2, 2),)), (2, 1, -1, ((2, 1),)),
                (4, 1, -1, ()))
        self.assertTrue(self.both(side, sheet))
        for at, less in ((0, ()), (2, ()), (3, ((2, 1),)), (4, ())):
            self.assertFalse(self.both(put(side, at, (*side[at][:3], less)), sheet))
        # For ever from row to row without a mark: of lesser numbers, but no points.
        ever = ((0, 0, 1, ()), (0, 1, 1, ()), (1, 0, 1, ()), (1, 1, 0, ()), (2, 0, -1, ((2, 1),)), (2, 1, -1, ((2, 1),)))
        self.assertFalse(self.both(ever, sheet))

    def test_leaning_out_of_the_part(self):
        # Row 0 and row 3 are one part, row 1 and 4 another one, on which the first one leans.
        sheet = (("least", 3), ("least", 4), ("mark", "a"), ("or", (1, 5)), ("or", (2, 6)), ("some", 0), ("some", 1))
        side = ((0, 0, -1, ((0, 1),)), (1, 0, -1, ((1, 8),)), (1, 1, -1, ((1, 5),)), (2, 1, -1, ()), (3, 0, 1, ()),
                (4, 0, 6, ((1, 7),)), (4, 1, 2, ()), (6, 0, 1, ((1, 6),)))
        self.assertTrue(self.both(side, sheet))
        for ranks in ((), ((0, 1),), ((0, 2),), ((1, 9),), ((0, 1), (1, 9))):
            for at in range(len(side)):
                self.both(put(side, at, (*side[at][:3], ranks)), sheet)
        # A least row of another part has no place in ranks.
        self.assertFalse(self.both(put(side, 0, (0, 0, -1, ((0, 1), (1, 9)))), sheet))
        self.assertFalse(self.both(put(side, 0, (0, 0, -1, ((1, 9),))), sheet))

    def test_several_least_rows(self):
        # 0 and 2 are least rows, 1 is a greatest one between them.
        sheet = (("least", 1), ("greatest", 2), ("least", 3), ("or", (4, 5, 6, 7)), ("mark", "a"), ("some", 0), ("some", 1),
                 ("some", 2))
        self.assertIs(check(sheet), True)
        sides = [sheet_paper(SMALL, sheet)[0], sheet_paper(RING, sheet)[0]]
        self.assertTrue(self.both(sides[0], sheet))
        self.assertTrue(self.both(sides[1], sheet, RING))
        for at, entry in enumerate(sides[0]):
            for ranks in itertools.chain(*[itertools.product((0, 2), (1, 2, 3), repeat=many) for many in (0, 1, 2)]):
                pairs = tuple(zip(ranks[::2], ranks[1::2]))
                self.both(put(sides[0], at, (*entry[:3], pairs)), sheet)

    def test_no_side_for_what_leans_on_itself_for_ever(self):
        for words in (["least"], ["least", "greatest"], ["least", "greatest", "least"], ["least"] * 3):
            sheet = ring(words)
            for most in range(4):
                leasts = [number for number, word in enumerate(words) if word == "least"]
                ranks = [tuple((least, many) for least, many in zip(leasts, row) if many)
                         for row in itertools.product(range(most), repeat=len(leasts))]
                for row in itertools.product(ranks, repeat=len(words)) if len(ranks) ** len(words) < 3000 else ():
                    self.assertFalse(self.both(tuple((number, 0, -1, pairs) for number, pairs in enumerate(row)), sheet))
        self.assertTrue(self.both(tuple((number, 0, -1, ()) for number in range(3)), ring(["greatest"] * 3)))
        self.assertTrue(self.both(((0, 0, -1, ()), (1, 0, -1, ((1, 1),))), ring(["greatest", "least"])))

    def test_all_sides_of_small_sheets(self):
        machine = (((0, 1), ()), ((), ("a",)))
        right = 0
        for words in itertools.product(("least", "greatest"), repeat=2):
            sheet = ((words[0], 2), (words[1], 0), ("or", (1, 3)), ("some", 1))
            places = list(itertools.product(range(4), range(2)))
            forms = []
            for number, standing in places:
                ranks = [()] + [((least, many),) for least in (0, 1) for many in (1, 2)]
                choices = {2: (1, 3), 3: machine[0][standing]}.get(number, (-1,))
                forms.append([None, *[(number, standing, *rest) for rest in itertools.product(choices, ranks)]])
            for chance in helper.chances(700):
                side = tuple(entry for entry in (chance.choice(form) for form in forms) if entry)
                right += self.both(side, sheet, machine)
                few = tuple(chance.choice(form[1:]) for form in forms if form[1:] and chance.random() < 0.4)
                right += self.both(few, sheet, machine)
        self.assertGreater(right, 40)

    def test_made_up_sides(self):
        # One entry or rank of a told side is changed at a time, until it is no side any more.
        lasting = 0
        for chance in helper.chances(150):
            machine = helper.some_machine(chance, chance.randint(1, 4))
            sheet = helper.knotted_sheet(chance, chance.randint(1, 4))
            sheet = chance.choice([sheet, helper.points_last(sheet)])
            side = sheet_paper(machine, sheet)[0]
            for _ in range(12):
                number, standing = chance.randrange(len(sheet)), chance.randrange(len(machine[0]))
                leasts = [one for one in range(len(sheet)) if sheet[one][0] == "least"]
                ranks = tuple((one, chance.randint(1, 3)) for one in leasts if chance.random() < 0.5)
                word, inner = sheet[number]
                choices = inner if word == "or" else machine[0][standing] if word == "some" else (-1,)
                entry = (number, standing, chance.choice(choices) if choices else -1, ranks)
                rest = [one for one in side if one[:2] != entry[:2]]
                other = tuple(sorted(rest + [entry])) if chance.random() < 0.7 else tuple(rest)
                if self.both(other, sheet, machine):
                    side = other
                    lasting += 1
        self.assertGreater(lasting, 100)

    def test_anything_at_any_depth(self):
        sheet, machine = (("greatest", 1), ("least", 2), ("or", (3, 0)), ("some", 1)), (((0, 1), (1,)), ((), ()))
        side = sheet_paper(machine, sheet)[0]
        self.assertEqual(len(side), 8)
        right = 0
        for thing in helper.changes(side):
            right += self.both(thing, sheet, machine)
        self.assertGreater(right, 10)


class Paper(Case):
    def check(self, machine, sheet):
        told = sheet_paper(machine, sheet)
        self.assertTrue(type(told) is tuple and len(told) == 2 and helper.is_plain(told))
        self.assertIs(right_sheet_paper(machine, sheet, told), True)
        self.assertEqual(sets_of(machine, sheet, told[0]), by_rounds(machine, sheet))
        self.assertEqual(sets_of(machine, sheet, told[1]), by_rounds(machine, opposite(sheet)))
        self.assertEqual(sheet_paper(machine, sheet), told)
        return told

    def test_ordinary_ones(self):
        for machine in (SMALL, MACHINE):
            for sheet in (AGAIN, ONCE, ORDINARY, opposite(ORDINARY)):
                self.assertTrue(self.both_papers(self.check(machine, sheet), sheet, machine))

    def test_machines_and_sheets_by_chance(self):
        for chance in helper.chances(250):
            machine = helper.some_machine(chance, chance.randint(1, 6))
            sheet = helper.some_sheet(chance, chance.randint(1, 15), chance.randint(0, 5))
            self.assertTrue(self.both_papers(self.check(machine, sheet), sheet, machine))
            sheet = helper.knotted_sheet(chance, chance.randint(1, 5))
            self.assertTrue(self.both_papers(self.check(machine, sheet), sheet, machine))

    def test_twelve_points(self):
        for chance in helper.chances(20):
            machine = helper.some_machine(chance, chance.randint(1, 12))
            sheet = helper.knotted_sheet(chance, 12)
            self.assertIs(check(sheet), True)
            self.assertTrue(self.both_papers(self.check(machine, sheet), sheet, machine))

    def test_40_standings(self):
        for machine in (RING, CHAIN, ((ALL,) * 40, RING[1]), helper.some_machine(helper.chances(1)[0], 40)):
            for sheet in (AGAIN, ONCE, ORDINARY, helper.knotted_sheet(helper.chances(1)[0], 12)):
                self.check(machine, sheet)
        # Each step of the chain is one more entry of the least row.
        self.assertEqual(self.check(CHAIN, ONCE)[0][0], (0, 0, -1, ((0, 40),)))

    def test_long_chains_and_rounds(self):
        self.check(RING, tuple(("some", number + 1) for number in range(999)) + (("mark", "a"),))
        self.check(CHAIN, (("least", 1),) + tuple(("all", (number + 1) % 1000) for number in range(1, 1000)))
        self.check(SMALL, (("greatest", 999),) + tuple(("some", number - 1) for number in range(1, 1000)))
        self.check(SMALL, tuple(("least" if number % 100 == 0 else "some", (number + 1) % 1000) for number in range(1000)))

    def test_wide_rows_are_told_swiftly(self):
        for words in (["least"] * 12, ["least"] * 6 + ["greatest"] * 6):
            sheet = wide_sheet(words, 60)
            told = helper.sooner(3000000, sheet_paper, CHAIN, sheet)
            self.assertEqual((len(told[0]), told[1]), (60 * 40, ()))
            self.assertIs(right_sheet_paper(CHAIN, sheet, told), True)
            self.assertTrue(judge_side(CHAIN, sheet, told[0]))

    def test_one_standing(self):
        for machine in ((((),), ((),)), (((0,),), ((),)), (((0,),), (("a",),))):
            for sheet in (ONCE, AGAIN, ORDINARY, (("and", ()),), (("or", ()),), (("least", 0),), (("greatest", 0),)):
                self.assertTrue(self.both_papers(self.check(machine, sheet), sheet, machine))

    def test_both_sides_exchanged_and_one_twice(self):
        for sheet in (AGAIN, ONCE, ORDINARY):
            side, other = sheet_paper(SMALL, sheet)
            for thing in ((other, side), (side, side), (other, other), (side, ()), ((), other), (side, other, ()), (side,),
                          [side, other], (list(side), other), (side, list(other)), (side, other, side), ((), ()), (),
                          (side + other, ()), {0: side, 1: other}):
                self.assertFalse(self.both_papers(thing, sheet), repr(thing)[:100])

    def test_an_entry_left_out_and_one_in_both(self):
        side, other = sheet_paper(SMALL, AGAIN)
        for at in range(len(side)):
            self.assertFalse(self.both_papers((side[:at] + side[at + 1:], other)))
        for at in range(len(other)):
            self.assertFalse(self.both_papers((side, other[:at] + other[at + 1:])))
        sheet = (("and", ()), ("mark", "a"), ("some", 1))
        side, other = sheet_paper(SMALL, sheet)
        for entry in side:
            self.assertFalse(self.both_papers((side, tuple(sorted((*other, entry)))), sheet))
        for entry in other:
            self.assertFalse(self.both_papers((tuple(sorted((*side, entry))), other), sheet))
        # An entry that nothing else leans on, left out of a right side.
        self.assertTrue(right_side(SMALL, sheet, side[1:]))
        self.assertFalse(self.both_papers((side[1:], other), sheet))

    def test_that_of_another_sheet_or_machine(self):
        told = sheet_paper(SMALL, AGAIN)
        for sheet in (opposite(AGAIN), put(AGAIN, 0, ("least", 1)), put(AGAIN, 1, ("greatest", 2)), AGAIN[:1] + AGAIN, ONCE,
                      put(AGAIN, 5, ("mark", "b")), put(AGAIN, 5, ("bare", "a")), AGAIN + (("mark", "a"),)):
            if sheet[:1] + sheet[2:] != AGAIN:
                self.both_papers(told, sheet)
        for machine in (MACHINE, (put(SMALL[0], 3, (3,)), SMALL[1]), (SMALL[0], put(SMALL[1], 1, ())), RING):
            self.assertFalse(self.both_papers(told, AGAIN, machine))

    def test_papers_that_somebody_else_wrote(self):
        side, other = sheet_paper(SMALL, AGAIN)
        self.assertTrue(self.both_papers((SIDE, other)))
        greater = tuple((*entry[:3], tuple((least, 3 * many) for least, many in entry[3])) for entry in side)
        self.assertTrue(self.both_papers((greater, other)))
        greater = tuple((*entry[:3], tuple((least, 3 * many) for least, many in entry[3])) for entry in other)
        self.assertTrue(self.both_papers((side, greater)))

    def test_anything_at_any_depth(self):
        sheet, machine = (("least", 1), ("or", (2, 0)), ("mark", "a")), (((0, 1), ()), ((), ("a",)))
        right = 0
        for thing in helper.changes(sheet_paper(machine, sheet)):
            right += self.both_papers(thing, sheet, machine)
        self.assertGreater(right, 4)


if __name__ == "__main__":
    unittest.main()
