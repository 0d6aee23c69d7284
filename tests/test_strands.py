"""Points 4 and 51: numbers of strands, which one lies over, and scores; points 1, 3 and 5 of them."""

import itertools
import unittest

from heddle.errors import NoCloth, NoStrand
from heddle.strands import scores_of, strand_over
from samples import NO_CLOTHS, small_cloths, some_cloths

CLOTH = ["##.",
         "#.."]


class TestStrandOver(unittest.TestCase):
    def test_in_both_orders(self):
        for pick, end in itertools.product(range(2), range(3)):
            over = CLOTH[pick][end] == "#"
            self.assertIs(strand_over(CLOTH, end, 3 + pick), over)
            self.assertIs(strand_over(CLOTH, 3 + pick, end), not over)

    def test_told_one_by_one(self):
        self.assertIs(strand_over(CLOTH, 0, 3), True)
        self.assertIs(strand_over(CLOTH, 1, 4), False)
        self.assertIs(strand_over(CLOTH, 4, 1), True)
        self.assertIs(strand_over(CLOTH, 2, 3), False)
        self.assertIs(strand_over(["#"], 0, 1), True)
        self.assertIs(strand_over(["#"], 1, 0), False)

    def test_strands_that_do_not_cross(self):
        for one, other in ((0, 1), (1, 0), (2, 0), (3, 4), (4, 3)) + tuple((k, k) for k in range(5)):
            with self.assertRaises(NoStrand):
                strand_over(CLOTH, one, other)

    def test_numbers_that_are_no_strands(self):
        for wrong in (-1, -3, -5, 5, 6, 80, 10 ** 59, -10 ** 59, 10 ** 69):
            for right in range(5):
                for one, other in ((wrong, right), (right, wrong), (wrong, wrong)):
                    with self.assertRaises(NoStrand):
                        strand_over(CLOTH, one, other)

    def test_no_cloth_ahead_of_no_strand(self):
        for texts in NO_CLOTHS:
            for one, other in ((0, 1), (-1, 0), (0, 99), (0, 0)):
                with self.assertRaises(NoCloth):
                    strand_over(texts, one, other)


class TestScores(unittest.TestCase):
    def test_worked_out_by_hand(self):
        self.assertEqual(scores_of(CLOTH), [2, 1, 0, 1, 2])
        self.assertEqual(scores_of(["#"]), [1, 0])
        self.assertEqual(scores_of(["."]), [0, 1])
        self.assertEqual(scores_of(["###"] * 2), [2, 2, 2, 0, 0])

    def test_each_and_all(self):
        for cloth in small_cloths() + some_cloths(20, 40, "scores"):
            ends, picks = len(cloth[0]), len(cloth)
            scores = scores_of(cloth)
            self.assertEqual(len(scores), ends + picks)
            self.assertEqual(sum(scores), ends * picks)
            for end in range(ends):
                over = [strand_over(cloth, end, pick) for pick in range(ends, ends + picks)]
                self.assertEqual(scores[end], over.count(True))
            for pick in range(ends, ends + picks):
                over = [strand_over(cloth, pick, end) for end in range(ends)]
                self.assertEqual(scores[pick], over.count(True))

    def test_no_cloth(self):
        for texts in NO_CLOTHS:
            with self.assertRaises(NoCloth):
                scores_of(texts)

    def test_the_askers_own(self):
        cloth = list(CLOTH)
        told = scores_of(cloth)
        told[0] = 99
        told.append(7)
        self.assertEqual(scores_of(cloth), [2, 1, 0, 1, 2])
        strand_over(cloth, 0, 3)
        self.assertEqual(cloth, CLOTH)


if __name__ == "__main__":
    unittest.main()
