"""Points 13 and 14: the texts of sayings and of machines."""

import unittest

from fairtrees import machines, notes, sayings
from fairtrees.errors import NoText, TooGreat
from tests import helper

FORMS = ("next", "once", "ever", "until", "unless")


def words_of(saying, number):
    """Tell the words of a row and of all within it, by calls within calls."""
    row = saying[number]
    if row[0] == "mark":
        return [row[1]]
    words = []
    for one in row:
        words += [one] if isinstance(one, str) else words_of(saying, one)
    return words


def saying_of(text):
    """Tell the saying of a text by another way: its tree from the left, then its rows from the right."""
    words = text.split(" ")

    def tree(at):
        if words[at] in ("some", "all"):
            assert words[at + 1] in FORMS
            head, at = (words[at], words[at + 1]), at + 2
        elif helper.is_name(words[at]):
            return ("mark", words[at]), at + 1
        else:
            assert words[at] in ("yes", "no", "not", "and", "or", "step")
            head, at = (words[at],), at + 1
        parts = []
        for _ in range({"yes": 0, "no": 0, "and": 2, "or": 2, "until": 2, "unless": 2}.get(head[-1], 1)):
            part, at = tree(at)
            parts.append(part)
        return (head, *parts), at

    whole, end = tree(0)
    assert end == len(words)
    rows = []

    def number(branch):
        if branch[0] == "mark":
            row = branch
        else:
            row = branch[0] + tuple([number(part) for part in branch[:0:-1]][::-1])
        if row not in rows:
            rows.append(row)
        return rows.index(row)

    number(whole)
    return tuple(rows)


def twice(many):
    """Tell a saying whose text has 2 to the power of many, less one, words: each row has the one ahead twice."""
    return (("yes",), *(("and", number, number) for number in range(many - 1)))


class TextOf(unittest.TestCase):
    def test_the_text_in_the_document(self):
        self.assertEqual(notes.text_of((("mark", "a"), ("yes",), ("all", "until", 1, 0))), "all until yes a")

    def test_each_kind_of_row(self):
        rows = (("mark", "a"), ("mark", "b"))
        self.assertEqual(notes.text_of((("yes",),)), "yes")
        self.assertEqual(notes.text_of((("no",),)), "no")
        self.assertEqual(notes.text_of((("mark", "mark"),)), "mark")
        for row, text in ((("not", 0), "not a"), (("and", 0, 1), "and a b"), (("or", 1, 0), "or b a"), (("step", 1), "step b")):
            self.assertEqual(notes.text_of((*rows, row)), text)
        for word in ("some", "all"):
            for form in FORMS[:3]:
                self.assertEqual(notes.text_of((*rows, (word, form, 1))), f"{word} {form} b")
            for form in FORMS[3:]:
                self.assertEqual(notes.text_of((*rows, (word, form, 1, 0))), f"{word} {form} b a")

    def test_rows_within_rows(self):
        saying = (("mark", "a"), ("mark", "b"), ("not", 0), ("and", 2, 1), ("some", "unless", 3, 2), ("or", 4, 4))
        once = "some unless and not a b not a"
        self.assertEqual(notes.text_of(saying), f"or {once} {once}")

    def test_400_words_and_401(self):
        whole = twice(8)
        self.assertEqual(notes.text_of(whole).count(" ") + 1, 255)
        left = (*whole, *(("not", number) for number in range(7, 7 + 145)))
        self.assertEqual(len(left), 153)
        self.assertEqual(notes.text_of(left).count(" ") + 1, 400)
        with self.assertRaises(TooGreat):
            notes.text_of((*left, ("not", 152)))
        right = (*whole, *(("all", "ever", number) for number in range(7, 7 + 72)), ("step", 79))
        self.assertEqual(notes.text_of(right).count(" ") + 1, 400)
        with self.assertRaises(TooGreat):
            notes.text_of((*right[:-1], ("all", "ever", 79)))

    def test_words_are_reckoned_by_sums(self):
        self.assertEqual(notes.text_of(twice(8)).count("and"), 127)
        for many in (9, 40, 160):
            with self.assertRaises(TooGreat):
                helper.soon(notes.text_of, twice(many))

    def test_rows_to_which_the_last_one_does_not_lead_do_not_count(self):
        self.assertEqual(helper.soon(notes.text_of, (*twice(159), ("not", 0))), "not yes")
        self.assertEqual(notes.text_of((*(("yes",),) * 159, ("and", 5, 7))), "and yes yes")

    def test_sayings_by_chance(self):
        told = refused = 0
        for seed, chance in enumerate(helper.chances(600)):
            saying = helper.some_saying(chance, 1 + seed % 60)
            counts = []
            for row in saying:
                parts = [counts[one] for one in row if isinstance(one, int)]
                counts.append(sum(parts) + (1 if row[0] == "mark" else len(row) - len(parts)))
            if counts[-1] > 400:
                refused += 1
                self.assertIsInstance(helper.refusal(notes.text_of, saying), TooGreat)
            else:
                told += 1
                self.assertEqual(notes.text_of(saying), " ".join(words_of(saying, len(saying) - 1)))
        self.assertGreater(told, 100)
        self.assertGreater(refused, 20)


class Read(unittest.TestCase):
    def refused(self, thing):
        with self.assertRaises(NoText):
            notes.read(thing)

    def test_the_text_in_the_document(self):
        self.assertEqual(notes.read("all until yes a"), (("mark", "a"), ("yes",), ("all", "until", 1, 0)))

    def test_each_kind_of_row(self):
        self.assertEqual(notes.read("yes"), (("yes",),))
        self.assertEqual(notes.read("no"), (("no",),))
        self.assertEqual(notes.read("mark"), (("mark", "mark"),))
        self.assertEqual(notes.read("not a"), (("mark", "a"), ("not", 0)))
        self.assertEqual(notes.read("step a"), (("mark", "a"), ("step", 0)))
        self.assertEqual(notes.read("and a b"), (("mark", "b"), ("mark", "a"), ("and", 1, 0)))
        self.assertEqual(notes.read("or a b"), (("mark", "b"), ("mark", "a"), ("or", 1, 0)))
        for word in ("some", "all"):
            for form in FORMS[:3]:
                self.assertEqual(notes.read(f"{word} {form} a"), (("mark", "a"), (word, form, 0)))
            for form in FORMS[3:]:
                self.assertEqual(notes.read(f"{word} {form} a b"), (("mark", "b"), ("mark", "a"), (word, form, 1, 0)))

    def test_rows_in_the_order_in_which_they_are_first_made(self):
        self.assertEqual(notes.read("or and a not b and not b a"), (
            ("mark", "a"), ("mark", "b"), ("not", 1), ("and", 2, 0), ("and", 0, 2), ("or", 4, 3)))
        self.assertEqual(notes.read("and some next a all next some next a"), (
            ("mark", "a"), ("some", "next", 0), ("all", "next", 1), ("and", 1, 2)))

    def test_each_unlike_row_once(self):
        self.assertEqual(notes.read("and yes yes"), (("yes",), ("and", 0, 0)))
        self.assertEqual(notes.read(notes.text_of(twice(8))), twice(8))

    def test_160_unlike_rows_and_161(self):
        self.assertEqual(len(notes.read("not " * 159 + "a")), 160)
        self.refused("not " * 160 + "a")
        self.assertEqual(len(notes.read("and b " * 79 + "a")), 81)
        self.assertEqual(len(notes.read("all ever " * 159 + "a")), 160)
        self.refused("all ever " * 160 + "a")

    def test_400_words_and_401(self):
        half = notes.text_of(twice(8))
        self.assertEqual(len(notes.read("not " * 145 + half)), 153)
        self.refused("not " * 146 + half)
        self.assertEqual(len(notes.read("and a " * 72 + "not " + half)), 8 + 1 + 1 + 72)
        self.refused("and a " * 73 + half)

    def test_blanks_and_line_ends(self):
        for text in ("", " ", "  ", " yes", "yes ", "not  yes", "not yes ", " not yes", "yes\n", "\nyes", "not\nyes",
                     "not\tyes", "not yes\n", "\n", "some  next yes", "some\nnext yes", "not yes\r", "not yes\x0b"):
            self.refused(text)

    def test_words_missing_or_left_over(self):
        for text in ("not", "and", "and yes", "or a", "step", "some", "all", "some next", "all until yes", "some unless a",
                     "yes yes", "a b", "not a b", "and a b a", "some next a b", "next a", "until a b", "once yes",
                     "some not a", "all yes", "some a next", "some some next a", "some all next a", "next some a",
                     "all all", "ever", "a some next", "a next", "yes next a", "not next a"):
            self.refused(text)

    def test_words_that_are_none(self):
        for text in ("A", "Yes", "YES", "not A", "abcdefghi", "a1", "1", "0", "mark 0", "a,b", "(a)", "not (a)", "-", ">",
                     "9" * 1000, "a" * 8000, "~", "\u00e4", "not \u0430", "yes.", "some-next a"):
            self.refused(text)
        self.refused(" ".join(["a"] * 4000))

    def test_things_that_are_no_text(self):
        for thing in helper.anything():
            if type(thing) is not str:
                self.refused(thing)
            elif not helper.is_name(thing) and thing not in ("yes", "no"):
                self.refused(thing)
            else:
                self.assertEqual(notes.text_of(notes.read(thing)), thing)
        for thing in (["yes"], ("yes",), b"yes", bytearray(b"yes"), (("yes",),), {"yes": 0}):
            self.refused(thing)

    def test_texts_by_chance(self):
        read = 0
        for seed, chance in enumerate(helper.chances(600)):
            text = helper.refusal(notes.text_of, helper.some_saying(chance, 1 + seed % 60))
            if isinstance(text, TooGreat):
                continue
            read += 1
            told = notes.read(text)
            self.assertIs(sayings.check(told), True)
            self.assertEqual(told, saying_of(text))
            self.assertEqual(notes.text_of(told), text)
            self.assertTrue(helper.is_plain(told))
        self.assertGreater(read, 100)

    def test_changed_texts_by_chance(self):
        words = ["a", "b", *helper.WORDS, "", "A"]
        for chance in helper.chances(2000):
            text = " ".join(chance.choice(words) for _ in range(chance.randint(1, 7)))
            try:
                told = saying_of(text)
            except (AssertionError, IndexError):
                self.refused(text)
            else:
                self.assertEqual(notes.read(text), told)


class Machines(unittest.TestCase):
    def refused(self, thing):
        with self.assertRaises(NoText):
            notes.read_machine(thing)

    def both(self, machine, text):
        self.assertEqual(notes.machine_text(machine), text)
        self.assertEqual(notes.read_machine(text), machine)

    def test_the_line_in_the_document(self):
        self.both((((0, 2), (), ()), (("a", "b"), (), ())), "a b > 0 2\n>\n>")

    def test_lines_without_names_or_steps(self):
        self.both((((),), ((),)), ">")
        self.both((((0,),), ((),)), "> 0")
        self.both((((),), (("a",),)), "a >")
        self.both((((0, 1), ()), (("mark",), ("a", "aa", "b"))), "mark > 0 1\na aa b >")

    def test_the_greatest_machine(self):
        names = tuple("abcdefgh"[:7]) + ("zzzzzzzz",)
        machine = ((tuple(range(40)),) * 40, (names,) * 40)
        line = " ".join(names) + " > " + " ".join(map(str, range(40)))
        self.both(machine, "\n".join([line] * 40))

    def test_forty_one_lines(self):
        self.assertIs(machines.check(notes.read_machine("\n".join([">"] * 40))), True)
        self.refused("\n".join([">"] * 41))
        self.refused("\n" * 8000)

    def test_needless_noughts_and_other_numbers(self):
        for number in ("00", "01", "-1", "+1", "-0", "1.0", " 1", "1 ", "1_0", "0x1", "\u0661", "\u00b9", "a", "", "2", "10",
                       "9" * 1000, "True", "1\r", "\t1"):
            self.refused(f"> {number}\n>")
        self.assertEqual(notes.read_machine("> 1\n>"), (((1,), ()), ((), ())))

    def test_a_line_end_behind_the_last_line(self):
        for text in (">\n", "\n>", ">\n\n>", "a > 0\n", ">\r\n>", ">\r>", "\n"):
            self.refused(text)

    def test_lines_that_do_not_rise(self):
        for text in ("> 1 0\n>", "> 0 0\n>", "b a >", "a a >", "> 10 2" + "\n>" * 10):
            self.refused(text)
        self.assertEqual(notes.read_machine("> 2 10" + "\n>" * 10)[0][0], (2, 10))

    def test_numbers_beyond_the_last_standing(self):
        self.refused("> 1")
        self.refused("> 2\n>")

    def test_blanks_and_signs(self):
        for text in ("", " ", " >", "> ", "a  > 0", "a >  0", "a > 0 ", " a > 0", "a>0", "a >0", "a> 0", "> >", ">>",
                     "> > 0", "a", "0", "a 0", "0 >", "a < 0", "a > a", "A >", "all >", "abcdefghi >", "a > 0 >", ">\t0"):
            self.refused(text)

    def test_nine_names(self):
        self.assertEqual(len(notes.read_machine("a b c d e f g h >")[1][0]), 8)
        self.refused("a b c d e f g h i >")

    def test_things_that_are_no_text(self):
        for thing in helper.anything():
            if thing is not None and type(thing) is str and thing == ">":
                continue
            self.refused(thing)
        for thing in ([">"], (">",), b">", bytearray(b">"), (((),), ((),))):
            self.refused(thing)

    def test_they_lead_to_one_another(self):
        for seed, chance in enumerate(helper.chances(200)):
            machine = helper.some_machine(chance, 1 + seed % 40)
            text = notes.machine_text(machine)
            self.assertEqual(notes.read_machine(text), machine)
            self.assertTrue(helper.is_plain(notes.read_machine(text)))
            lines = text.split("\n")
            self.assertEqual(len(lines), len(machine[0]))
            for line, row, names in zip(lines, *machine):
                self.assertEqual(line.split(" "), [*names, ">", *map(str, row)])

    def test_changed_texts_by_chance(self):
        whole = "a b > 0 2\nmark > 1\n> 0 1 2"
        for chance in helper.chances(3000):
            at = chance.randrange(len(whole))
            text = whole[:at] + chance.choice(["", " ", "\n", ">", "0", "1", "3", "a", "c", "Z"]) + whole[at + chance.randint(0, 1):]
            told = helper.refusal(notes.read_machine, text)
            if isinstance(told, NoText):
                self.assertIsNone(self.loosely(text), repr(text))
            else:
                self.assertIs(machines.check(told), True)
                self.assertEqual(notes.machine_text(told), text)

    def loosely(self, text):
        """Tell the machine of the text, read without care, where writing it again leads to the text; else None."""
        try:
            rows = [line.split(">") for line in text.split("\n")]
            machine = (tuple(tuple(map(int, row.split())) for _, row in rows), tuple(tuple(names.split()) for names, _ in rows))
            machines.check(machine)
        except ValueError:
            return None
        return machine if notes.machine_text(machine) == text else None


if __name__ == "__main__":
    unittest.main()
