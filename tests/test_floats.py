"""Point 45: the longest float of a strand; points 1, 3 and 5 of it."""

import unittest

from heddle.errors import NoCloth, NoStrand
from heddle.floats import longest_float
from samples import NO_CLOTHS, small_cloths, some_cloths, strands_of, twill


def plain_floats(signs):
    """All floats of a strand, by a plain walk along it."""
    floats = []
    for start in range(len(signs)):
        for length in range(1, len(signs)):
            stretch = [signs[(start + k) % len(signs)] for k in range(-1, length + 1)]
            if len(set(stretch[1:-1])) == 1 and stretch[0] != stretch[1] != stretch[-1]:
                floats.append((start, length))
    return floats


class TestLongestFloat(unittest.TestCase):
    def assert_pick(self, signs, answer):
        """The same signs as a pick, and as an end."""
        self.assertEqual(longest_float([signs], len(signs)), answer)
        self.assertEqual(longest_float(["." * len(signs), signs], len(signs) + 1), answer)
        self.assertEqual(longest_float(list(signs), 0), answer)
        self.assertEqual(longest_float(["#" + sign for sign in signs], 1), answer)

    def test_within(self):
        self.assert_pick("#..#.", (1, 2))
        self.assert_pick(".##.#.", (1, 2))
        self.assert_pick("#.###.", (2, 3))
        self.assert_pick(".#", (0, 1))
        self.assert_pick("#.", (0, 1))

    def test_both_signs_float(self):
        self.assert_pick("#.##.", (2, 2))
        self.assert_pick(".#..#", (2, 2))

    def test_round_the_seam(self):
        self.assert_pick("##.#", (3, 3))
        self.assert_pick("#..##", (3, 3))
        self.assert_pick("..#.", (3, 3))
        self.assert_pick("#.....#.#.##", (1, 5))
        self.assert_pick("##.##", (3, 4))
        self.assert_pick("#.#.#.##", (6, 3))

    def test_a_start_at_the_last_crossing(self):
        self.assert_pick("##.#", (3, 3))
        self.assert_pick("#.#", (2, 2))
        self.assert_pick("." * 38 + "#.", (39, 39))

    def test_the_least_start_of_several(self):
        self.assert_pick("##..", (0, 2))
        self.assert_pick(".##..##.", (1, 2))
        self.assert_pick("#.#.", (0, 1))
        self.assert_pick("#..#.##..##.", (1, 2))
        self.assert_pick("#.##..", (2, 2))
        self.assert_pick("..#.##.", (6, 3))
        self.assert_pick("#.##.#", (2, 2))

    def test_all_the_same(self):
        for signs in ("##", "..", "#####", "." * 40):
            self.assert_pick(signs, None)

    def test_a_single_crossing(self):
        for sign in "#.":
            self.assertIsNone(longest_float([sign], 0))
            self.assertIsNone(longest_float([sign], 1))
        self.assertIsNone(longest_float(["#.#"], 0))
        self.assertIsNone(longest_float(["#", "."], 2))

    def test_ends_and_picks_of_one_cloth(self):
        cloth = ["##.#",
                 "#...",
                 "####"]
        self.assertEqual([longest_float(cloth, strand) for strand in range(7)],
                         [None, (2, 2), (0, 2), (2, 2), (3, 3), (1, 3), None])

    def test_a_twill(self):
        cloth = twill(2, 3)
        self.assertEqual([longest_float(cloth, pick) for pick in range(5, 10)],
                         [(2, 3), (3, 3), (4, 3), (0, 3), (1, 3)])

    def test_by_a_plain_walk(self):
        for cloth in small_cloths() + some_cloths(30, 12, "floats"):
            ends = len(cloth[0])
            for strand in strands_of(cloth):
                signs = [text[strand] for text in cloth] if strand < ends else cloth[strand - ends]
                floats = plain_floats(signs)
                answer = min(floats, key=lambda one: (-one[1], one[0])) if floats else None
                self.assertEqual(longest_float(cloth, strand), answer, (cloth, strand))

    def test_strands_that_the_cloth_does_not_have(self):
        cloth = ["#..", ".#."]
        self.assertEqual(longest_float(cloth, 4), (2, 2))
        for strand in (-1, -5, 5, 6, 80, 10 ** 59, -10 ** 59, 10 ** 69):
            with self.assertRaises(NoStrand):
                longest_float(cloth, strand)

    def test_no_cloth_ahead_of_no_strand(self):
        for texts in NO_CLOTHS:
            for strand in (0, -1, 99, 10 ** 59):
                with self.assertRaises(NoCloth):
                    longest_float(texts, strand)

    def test_kinds_and_what_is_handed_in(self):
        cloth = ["#..", ".#."]
        told = longest_float(cloth, 3)
        self.assertIs(type(told), tuple)
        self.assertTrue(all(type(number) is int for number in told))
        self.assertEqual(cloth, ["#..", ".#."])


if __name__ == "__main__":
    unittest.main()
