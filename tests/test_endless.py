"""Points 41, 42 and 43: the cloth without end, fields of it, and tiling; points 1, 3 and 5 of them."""

import itertools
import unittest

from heddle.endless import far_sign, overs_within, tiled
from heddle.errors import NoCloth, TooLarge
from samples import NO_CLOTHS, small_cloths, some_cloths

CLOTH = ["##..#",
         "#....",
         ".###."]

FAR = 10 ** 59 + 7


class TestFarSign(unittest.TestCase):
    def test_within_the_cloth(self):
        for pick, text in enumerate(CLOTH):
            for end, sign in enumerate(text):
                self.assertEqual(far_sign(CLOTH, end, pick), sign)

    def test_beyond_and_below_nought(self):
        for x, y in itertools.product(range(-12, 13), range(-8, 9)):
            self.assertEqual(far_sign(CLOTH, x, y), (CLOTH * 10)[y + 9][((x + 15) % 5)])
        self.assertEqual(far_sign(CLOTH, -1, 0), "#")
        self.assertEqual(far_sign(CLOTH, 0, -1), ".")
        self.assertEqual(far_sign(CLOTH, 5, 3), "#")

    def test_places_of_60_figures(self):
        whole = 10 ** 59
        for end, pick in itertools.product(range(5), range(3)):
            self.assertEqual(far_sign(CLOTH, 5 * whole + end, 3 * whole + pick), CLOTH[pick][end])
            self.assertEqual(far_sign(CLOTH, -5 * whole + end, -3 * whole + pick), CLOTH[pick][end])
        self.assertEqual(far_sign(["#"], 10 ** 60 - 1, -10 ** 60 + 1), "#")

    def test_no_cloth(self):
        for texts in NO_CLOTHS:
            with self.assertRaises(NoCloth):
                far_sign(texts, 0, 0)


class TestOversWithin(unittest.TestCase):
    def test_fields_of_no_width_or_no_height(self):
        for left, first in ((0, 0), (-3, 7), (10 ** 60 - 1, 1 - 10 ** 60)):
            self.assertEqual(overs_within(CLOTH, left, first, 0, 0), 0)
            self.assertEqual(overs_within(CLOTH, left, first, 0, 10 ** 60 - 1), 0)
            self.assertEqual(overs_within(CLOTH, left, first, 10 ** 60 - 1, 0), 0)
            self.assertEqual(overs_within(CLOTH, left, first, 0, 1), 0)
            self.assertEqual(overs_within(CLOTH, left, first, 1, 0), 0)

    def test_fields_of_one_place(self):
        for x, y in itertools.product(range(-7, 8), range(-7, 8)):
            self.assertEqual(overs_within(CLOTH, x, y, 1, 1), 1 if far_sign(CLOTH, x, y) == "#" else 0)

    def test_within_a_cloth(self):
        self.assertEqual(overs_within(CLOTH, 0, 0, 5, 3), 7)
        self.assertEqual(overs_within(CLOTH, 1, 0, 3, 2), 1)
        self.assertEqual(overs_within(CLOTH, 1, 1, 4, 2), 3)

    def test_each_place_counted(self):
        for cloth in (CLOTH, ["#.."], ["#", ".", "."], ["."], ["#"]):
            for left, first, wide, high in itertools.product((-6, -1, 0, 2), (-4, 0, 1), (0, 1, 4, 5, 6, 11),
                                                             (0, 1, 2, 3, 7)):
                counted = sum(far_sign(cloth, x, y) == "#" for x in range(left, left + wide)
                              for y in range(first, first + high))
                self.assertEqual(overs_within(cloth, left, first, wide, high), counted)

    def test_fields_and_places_of_60_figures(self):
        whole = 10 ** 58
        self.assertEqual(overs_within(CLOTH, 0, 0, 5 * whole, 3 * whole), 7 * whole * whole)
        self.assertEqual(overs_within(CLOTH, -FAR, FAR, 5 * whole, 3 * whole), 7 * whole * whole)
        self.assertEqual(overs_within(["#"], 1 - 10 ** 60, 1 - 10 ** 60, 10 ** 60 - 1, 10 ** 60 - 1),
                         (10 ** 60 - 1) ** 2)
        self.assertEqual(overs_within(["."], 0, 0, 10 ** 60 - 1, 10 ** 60 - 1), 0)
        # Whole rounds wide and a little more: two ends more, of which pick 0 has both over.
        self.assertEqual(overs_within(CLOTH, 5 * whole, -3 * whole, 5 * whole + 2, 1), 3 * whole + 2)
        # From the last end on, past the seam.
        self.assertEqual(overs_within(CLOTH, -5 * whole - 1, 3 * whole, 3, 1), 3)

    def test_a_field_is_the_sum_of_its_parts(self):
        for cloth in some_cloths(30, 40, "fields"):
            for cut in (1, 17, FAR):
                whole = overs_within(cloth, -FAR, FAR - 3, 3 * FAR, 2 * FAR)
                left = overs_within(cloth, -FAR, FAR - 3, cut, 2 * FAR)
                right = overs_within(cloth, -FAR + cut, FAR - 3, 3 * FAR - cut, 2 * FAR)
                self.assertEqual(whole, left + right)
                upper = overs_within(cloth, -FAR, FAR - 3, 3 * FAR, cut)
                lower = overs_within(cloth, -FAR, FAR - 3 + cut, 3 * FAR, 2 * FAR - cut)
                self.assertEqual(whole, upper + lower)

    def test_no_cloth(self):
        for texts in NO_CLOTHS:
            with self.assertRaises(NoCloth):
                overs_within(texts, 0, 0, 1, 1)
            with self.assertRaises(NoCloth):
                overs_within(texts, 0, 0, 0, 0)


class TestTiled(unittest.TestCase):
    def test_told_sign_by_sign(self):
        self.assertEqual(tiled(["#.", ".."], 3, 2), ["#.#.#.", "......"] * 2)
        self.assertEqual(tiled(["#.."], 1, 3), ["#.."] * 3)
        self.assertEqual(tiled(["#", "."], 4, 1), ["####", "...."])

    def test_once_each_way_is_the_cloth(self):
        for cloth in small_cloths() + some_cloths(10, 40, "tiles"):
            self.assertEqual(tiled(cloth, 1, 1), cloth)

    def test_each_place_as_in_the_cloth_without_end(self):
        told = tiled(CLOTH, 8, 13)
        self.assertEqual((len(told), len(told[0])), (39, 40))
        for y, x in itertools.product(range(39), range(40)):
            self.assertEqual(told[y][x], far_sign(CLOTH, x, y))

    def test_a_side_of_just_40_and_one_beyond(self):
        self.assertEqual(tiled(["#"], 40, 40), ["#" * 40] * 40)
        self.assertEqual(tiled(["#." * 20] * 40, 1, 1), ["#." * 20] * 40)
        self.assertEqual(tiled(["#.", "##"], 20, 20), ["#." * 20, "##" * 20] * 20)
        for cloth, across, along in ((["#"], 41, 1), (["#"], 1, 41), (["#.", "##"], 21, 1), (["#.", "##"], 1, 21),
                                     (["#" * 21], 2, 1), (["#"] * 21, 1, 2), (["#" * 40] * 40, 2, 2),
                                     (CLOTH, 9, 1), (CLOTH, 1, 14), (CLOTH, 9, 14)):
            with self.assertRaises(TooLarge):
                tiled(cloth, across, along)

    def test_counts_of_60_figures(self):
        for across, along in ((10 ** 60 - 1, 1), (1, 10 ** 60 - 1), (10 ** 60 - 1, 10 ** 60 - 1)):
            for cloth in (["#"], CLOTH):
                with self.assertRaises(TooLarge):
                    tiled(cloth, across, along)

    def test_no_cloth_ahead_of_too_large(self):
        for texts in NO_CLOTHS:
            for across in (1, 41, 10 ** 59):
                with self.assertRaises(NoCloth):
                    tiled(texts, across, 1)

    def test_the_askers_own(self):
        cloth = list(CLOTH)
        told = tiled(cloth, 1, 1)
        told[0] = "changed"
        told.append("more")
        self.assertEqual(cloth, CLOTH)
        self.assertEqual(tiled(cloth, 1, 1), CLOTH)
        far_sign(cloth, 1, 1)
        overs_within(cloth, 0, 0, 9, 9)
        self.assertEqual(cloth, CLOTH)


if __name__ == "__main__":
    unittest.main()
