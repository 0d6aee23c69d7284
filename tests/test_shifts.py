"""Point 44: shifts that leave a cloth the same, and the triple of which they are made; points 1, 3 and 5 of them."""

import itertools
import unittest

from heddle.endless import far_sign, tiled
from heddle.errors import NoCloth
from heddle.shifts import same_shifted, shifts_of
from samples import NO_CLOTHS, all_cloths, satin, small_cloths, some_cloths, twill

PLAIN = ["#.", ".#"]
APART = ["##.",
         "#..",
         "..."]


def plainly_same(cloth, x, y):
    return all(far_sign(cloth, k, j) == far_sign(cloth, k + x, j + y)
               for k in range(len(cloth[0])) for j in range(len(cloth)))


class TestSameShifted(unittest.TestCase):
    def test_a_plain_cloth(self):
        for x, y in itertools.product(range(-5, 6), range(-5, 6)):
            self.assertIs(same_shifted(PLAIN, x, y), (x + y) % 2 == 0)

    def test_a_twill(self):
        cloth = twill(2, 2)
        for x, y in itertools.product(range(-5, 6), range(-5, 6)):
            self.assertIs(same_shifted(cloth, x, y), (x - y) % 4 == 0)

    def test_unlike_counts_of_ends_and_picks(self):
        cloth = ["#..#..", ".#..#."]
        self.assertTrue(same_shifted(cloth, 3, 0))
        self.assertTrue(same_shifted(cloth, -3, 2))
        self.assertFalse(same_shifted(cloth, 1, 1))
        self.assertFalse(same_shifted(cloth, 2, 0))
        self.assertFalse(same_shifted(cloth, 0, 1))
        self.assertTrue(same_shifted(["#.", "#.", "#."], 0, 1))
        self.assertFalse(same_shifted(["#.", "#.", "#."], 1, 0))

    def test_the_side_to_which_is_shifted(self):
        # Each pick is the one above it, one to the right.
        cloth = ["##....", ".##...", "..##..", "...##.", "....##", "#....#"]
        self.assertTrue(same_shifted(cloth, 1, 1))
        self.assertTrue(same_shifted(cloth, -1, -1))
        self.assertFalse(same_shifted(cloth, 1, -1))
        self.assertFalse(same_shifted(cloth, -1, 1))

    def test_shifts_of_60_figures(self):
        whole = 10 ** 59
        self.assertTrue(same_shifted(PLAIN, 2 * whole, 4 * whole))
        self.assertTrue(same_shifted(PLAIN, whole + 1, 1 - whole))
        self.assertFalse(same_shifted(PLAIN, whole + 1, -whole))
        self.assertTrue(same_shifted(APART, -3 * whole, 3 * whole))
        self.assertFalse(same_shifted(APART, 1 - 3 * whole, 3 * whole))
        self.assertFalse(same_shifted(APART, -3 * whole, 3 * whole + 1))

    def test_whole_cloths_and_no_shift(self):
        for cloth in small_cloths() + some_cloths(20, 40, "shifts"):
            for x, y in itertools.product((-2, -1, 0, 1), repeat=2):
                self.assertIs(same_shifted(cloth, x * len(cloth[0]), y * len(cloth)), True)

    def test_all_small_cloths_place_by_place(self):
        for cloth in small_cloths():
            for x, y in itertools.product(range(-3, 5), repeat=2):
                self.assertIs(same_shifted(cloth, x, y), plainly_same(cloth, x, y))


class TestShiftsOf(unittest.TestCase):
    def test_worked_out_by_hand(self):
        self.assertEqual(shifts_of(PLAIN), (2, 1, 1))
        self.assertEqual(shifts_of(twill(2, 2)), (4, 1, 1))
        self.assertEqual(shifts_of(twill(1, 3)), (4, 1, 1))
        # A satin of 5 by 2: the sign two to the right and one further on.
        self.assertEqual(shifts_of(satin(5, 2)), (5, 2, 1))
        self.assertEqual(shifts_of(satin(8, 5)), (8, 5, 1))

    def test_one_sign_alone(self):
        for cloth in (["#"], ["."], ["##", "##"], ["..."] * 2, ["#" * 40] * 40):
            self.assertEqual(shifts_of(cloth), (1, 0, 1))

    def test_whole_cloths_alone(self):
        self.assertEqual(shifts_of(APART), (3, 0, 3))
        self.assertEqual(shifts_of(["#....", ".....", "....."]), (5, 0, 3))
        self.assertEqual(shifts_of(["#" + "." * 39] + ["." * 40] * 39), (40, 0, 40))

    def test_one_end_and_one_pick(self):
        self.assertEqual(shifts_of(["#", ".", "."]), (1, 0, 3))
        self.assertEqual(shifts_of(["#", ".", "#", "."]), (1, 0, 2))
        self.assertEqual(shifts_of(["#..."]), (4, 0, 1))
        self.assertEqual(shifts_of(["#.#."]), (2, 0, 1))

    def test_shifts_that_are_not_of_one_pick(self):
        self.assertEqual(shifts_of(["#.", "#.", ".#", ".#"]), (2, 1, 2))
        self.assertEqual(shifts_of(["##..", "....", "..##", "...."]), (4, 2, 2))
        self.assertEqual(shifts_of(["#.....", "......", "..#...", "......", "....#.", "......"]), (6, 2, 2))

    def test_a_tiled_cloth_has_the_shifts_of_the_cloth(self):
        for cloth in some_cloths(20, 10, "tiled"):
            self.assertEqual(shifts_of(tiled(cloth, 3, 4)), shifts_of(cloth))

    def assert_makes_all(self, cloth):
        a, b, c = shifts_of(cloth)
        self.assertLess(b, a)
        self.assertGreaterEqual(b, 0)
        self.assertGreater(c, 0)
        for x, y in itertools.product(range(-len(cloth[0]), len(cloth[0]) + 1), range(-len(cloth), len(cloth) + 1)):
            made = y % c == 0 and (x - y // c * b) % a == 0
            self.assertEqual(same_shifted(cloth, x, y), made, (cloth, x, y))

    def test_all_shifts_are_made_of_the_two(self):
        for cloth in small_cloths() + all_cloths(4, 3) + all_cloths(2, 5):
            self.assert_makes_all(cloth)
        for cloth in [twill(3, 2), twill(2, 4), satin(7, 3), satin(8, 3), tiled(satin(5, 2), 2, 2),
                      tiled(["#.", "#.", ".#", ".#"], 3, 2), tiled(["#...", "..#."], 1, 3)]:
            self.assert_makes_all(cloth)

    def test_kinds(self):
        told = shifts_of(PLAIN)
        self.assertIs(type(told), tuple)
        self.assertTrue(all(type(number) is int for number in told))

    def test_the_largest_in_good_time(self):
        # Alike but for the last sign, so that each shift is looked at nearly to the end.
        self.assertEqual(shifts_of(["#" * 40] * 39 + ["#" * 39 + "."]), (40, 0, 40))


class TestHandedIn(unittest.TestCase):
    def test_no_cloth(self):
        for texts in NO_CLOTHS:
            with self.assertRaises(NoCloth):
                same_shifted(texts, 0, 0)
            with self.assertRaises(NoCloth):
                shifts_of(texts)

    def test_it_stays_as_it_was(self):
        cloth = list(APART)
        same_shifted(cloth, 1, 2)
        shifts_of(cloth)
        self.assertEqual(cloth, APART)


if __name__ == "__main__":
    unittest.main()
