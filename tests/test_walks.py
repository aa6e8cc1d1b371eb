"""Point 17: all walks of so many steps."""

import unittest

from fairtrees.errors import TooMany
from fairtrees.walks import walks
from tests import helper

LOOSE = (((1, 2), (0,), (), (1, 3)), ((),) * 4)

# From 0 to 1 and 2, and from each of these and of 3 to 12 to the ten from 3 to 12: 2000 walks of four steps.
TEN = (3, 4, 5, 6, 7, 8, 9, 10, 11, 12)
JUST = (((1, 2),) + (TEN,) * 12, ((),) * 13)
# One walk more, by 13.
OVER = (((1, 2, 13),) + (TEN,) * 12 + ((13,),), ((),) * 14)


def all_walks(machine, standing, length):
    """Tell all walks by calls within calls."""
    if length == 0:
        return [(standing,)]
    return [(standing, *rest) for other in machine[0][standing] for rest in all_walks(machine, other, length - 1)]


def whole(many):
    """Tell a machine of so many standings with all steps."""
    return (tuple(range(many)),) * many, ((),) * many


class Walks(unittest.TestCase):
    def test_no_steps(self):
        for standing in range(4):
            self.assertEqual(walks(LOOSE, standing, 0), [(standing,)])

    def test_one_step(self):
        self.assertEqual(walks(LOOSE, 0, 1), [(0, 1), (0, 2)])
        self.assertEqual(walks(LOOSE, 3, 1), [(3, 1), (3, 3)])

    def test_standings_without_steps(self):
        self.assertEqual(walks(LOOSE, 2, 1), [])
        self.assertEqual(walks(LOOSE, 2, 60), [])
        self.assertEqual(walks((((),), ((),)), 0, 0), [(0,)])
        self.assertEqual(walks((((),), ((),)), 0, 1), [])

    def test_sixty_steps(self):
        self.assertEqual(walks((((0,),), ((),)), 0, 60), [(0,) * 61])
        told = walks((((0, 1), (1,)), ((), ())), 0, 60)
        self.assertEqual(told, [(0,) * many + (1,) * (61 - many) for many in range(1, 62)][::-1])

    def test_a_list_of_tuples_in_rising_order(self):
        told = walks(LOOSE, 3, 3)
        self.assertIs(type(told), list)
        self.assertEqual(told, [(3, 1, 0, 1), (3, 1, 0, 2), (3, 3, 1, 0), (3, 3, 3, 1), (3, 3, 3, 3)])
        self.assertTrue(all(type(walk) is tuple and helper.is_plain(walk) for walk in told))

    def test_machines_by_chance(self):
        for chance in helper.chances(150):
            machine = helper.some_machine(chance, chance.randint(1, 6))
            standing = chance.randrange(len(machine[0]))
            for length in range(6):
                told = all_walks(machine, standing, length)
                self.assertEqual(told, sorted(set(told)))
                self.assertEqual(walks(machine, standing, length), told)

    def test_2000_walks_are_told(self):
        told = walks(JUST, 0, 4)
        self.assertEqual(len(told), 2000)
        self.assertEqual(told, all_walks(JUST, 0, 4))

    def test_2001_walks_are_refused(self):
        self.assertEqual(len(all_walks(OVER, 0, 4)), 2001)
        with self.assertRaises(TooMany):
            walks(OVER, 0, 4)
        self.assertEqual(walks(OVER, 0, 3), all_walks(OVER, 0, 3))
        self.assertEqual(walks(OVER, 13, 60), [(13,) * 61])

    def test_very_many_are_refused_swiftly(self):
        with self.assertRaises(TooMany):
            walks(whole(40), 0, 60)
        with self.assertRaises(TooMany):
            helper.soon(walks, whole(20), 0, 60)
        with self.assertRaises(TooMany):
            helper.soon(walks, whole(2), 1, 11)
        self.assertEqual(len(walks(whole(2), 1, 10)), 1024)

    def test_walks_that_cannot_be_ended_are_not_begun(self):
        # Each of 0 to 37 leads to all of them behind it: whoever walks on blindly is lost among them.
        maze = tuple(tuple(range(one + 1, 38)) for one in range(38)) + ((39,), (39,))
        self.assertEqual(helper.soon(walks, (maze, ((),) * 40), 0, 60), [])
        self.assertEqual(helper.soon(walks, (maze, ((),) * 40), 0, 37), [tuple(range(38))])
        # And with one way out, by 38, there is one walk.
        maze = ((*maze[0], 38),) + maze[1:]
        self.assertEqual(helper.soon(walks, (maze, ((),) * 40), 0, 60), [(0, 38) + (39,) * 59])

    def test_a_told_list_that_is_changed_changes_no_later_answer(self):
        told = walks(LOOSE, 0, 2)
        told.append("more")
        told[0] = None
        self.assertEqual(walks(LOOSE, 0, 2), [(0, 1, 0)])
        told = walks(LOOSE, 2, 0)
        told.clear()
        self.assertEqual(walks(LOOSE, 2, 0), [(2,)])


if __name__ == "__main__":
    unittest.main()
