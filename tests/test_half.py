"""Points 71 and 72: half cloths and their cuts; points 1 and 5 of them."""

import itertools
import unittest

from heddle.errors import NoCloth, NoStrand
from heddle.half import is_cut
from samples import all_cloths, crosses, hang_together, lies_over, some_cloths, strands_of

HALF = ["#?.",
        "#.?"]

NO_HALVES = [[], ["#."], ["#", "."], ["#"], ["?"], [""], ["", ""], ["#."] * 41, ["#" * 41] * 2, ["#?", "#"],
             ["#", "#?"], ["#?", "#?."], ["##", "##", ""], ["#?", "?a"], ["#?", "? "], ["#?", "!?"], ["?" * 40],
             ["?" * 40] * 39 + ["?" * 39 + "x"], ["?" * 40] * 41, ["?" * 40] * 39 + ["?" * 41]]


def all_halves(ends, picks):
    texts = ["".join(signs) for signs in itertools.product("#.?", repeat=ends)]
    return [list(half) for half in itertools.product(texts, repeat=picks)]


def finishings(half):
    """All finishings of a half cloth, in the order of point 73."""
    count = "".join(half).count("?")
    for signs in itertools.product("#.", repeat=count):
        rest = list(signs)
        yield ["".join(rest.pop(0) if sign == "?" else sign for sign in text) for text in half]


def plainly_cut(half, strands):
    """Whether a set is a cut, told straight from point 72."""
    others = [strand for strand in strands_of(half) if strand not in strands]
    for one, other in itertools.product(strands, others):
        if crosses(half, one, other):
            end, pick = min(one, other), max(one, other) - len(half[0])
            if half[pick][end] == "?" or not lies_over(half, one, other):
                return False
    return len(strands) > 0 and len(others) > 0


class TestIsCut(unittest.TestCase):
    def test_worked_out_by_hand(self):
        # End 0 lies over both picks.
        self.assertIs(is_cut(HALF, [0]), True)
        # End 1 at pick 0 and end 2 at pick 1 are not told.
        self.assertIs(is_cut(HALF, [1]), False)
        self.assertIs(is_cut(HALF, [0, 3]), False)
        self.assertIs(is_cut(["#.", "#."], [0]), True)
        self.assertIs(is_cut(["#.", "#."], [0, 2]), True)
        self.assertIs(is_cut(["#.", "#."], [0, 2, 3]), True)
        self.assertIs(is_cut(["#.", "#."], [1]), False)
        self.assertIs(is_cut(["#.", "#."], [2]), False)
        self.assertIs(is_cut(["#.", ".#"], [0]), False)

    def test_a_sign_that_is_not_told(self):
        self.assertIs(is_cut(["##", "##"], [0]), True)
        self.assertIs(is_cut(["?#", "##"], [0]), False)
        self.assertIs(is_cut(["##", "?#"], [0]), False)
        self.assertIs(is_cut(["#?", "##"], [0]), True)
        self.assertIs(is_cut(["..", "##"], [2]), True)
        self.assertIs(is_cut(["?.", "##"], [2]), False)

    def test_signs_within_the_set_need_not_be_told(self):
        self.assertIs(is_cut(["?.", "#."], [0, 2]), True)
        self.assertIs(is_cut(["?.", "#?"], [0, 2]), True)

    def test_a_strand_that_does_not_lie_over(self):
        self.assertIs(is_cut(["##", ".#"], [0]), False)
        self.assertIs(is_cut(["..", ".#"], [3]), False)
        self.assertIs(is_cut(["##", ".#"], [1]), True)

    def test_all_strands(self):
        for half in (HALF, ["##", "##"], ["??", "??"]):
            self.assertIs(is_cut(half, strands_of(half)), False)

    def test_two_of_one_kind(self):
        self.assertIs(is_cut(["##?", "##."], [0, 1]), True)
        self.assertIs(is_cut(["##?", "##."], [0, 2]), False)
        self.assertIs(is_cut(["..", "..", "?#"], [2, 3]), True)

    def test_all_sets_of_small_halves(self):
        for half in all_halves(2, 2) + some_cloths(40, 4, "halves", signs="?#.", least=2):
            every = strands_of(half)
            for count in range(1, len(every) + 1):
                for strands in itertools.combinations(every, count):
                    self.assertIs(is_cut(half, list(strands)), plainly_cut(half, strands), (half, strands))

    def test_a_cut_bars_just_where_no_finishing_hangs_together(self):
        for half in all_halves(2, 2) + all_cloths(3, 2):
            every = strands_of(half)
            cut = any(is_cut(half, list(strands)) for count in range(1, len(every))
                      for strands in itertools.combinations(every, count))
            hangs = any(hang_together(rows, every) for rows in finishings(half))
            self.assertNotEqual(cut, hangs, half)

    def test_the_largest(self):
        self.assertIs(is_cut(["?" * 40] * 40, list(range(79))), False)
        self.assertIs(is_cut(["#" * 40] * 40, list(range(40))), True)
        self.assertIs(is_cut(["#" * 40] * 39 + ["#" * 39 + "?"], list(range(40))), False)
        self.assertIs(is_cut(["#" * 40] * 39 + ["#" * 39 + "?"], list(range(39))), True)

    def test_no_half_cloth(self):
        for texts in NO_HALVES:
            for strands in ([0], [], [-1], [1, 0], [0, 0], [10 ** 69]):
                with self.subTest(texts=texts[:3], strands=strands):
                    with self.assertRaises(NoCloth):
                        is_cut(texts, strands)

    def test_lists_that_are_no_sets(self):
        for strands in ([], [0, 0], [4, 4], [1, 0], [0, 2, 1], [0, 3, 3], [-1], [5], [0, 5], [-1, 0], [-5], [0, 9, 3],
                        [10 ** 69], [-10 ** 69, 0], [0, 1, 2, 3, 4, 5], [0, 1, 2, 3, 4, 4]):
            with self.subTest(strands=strands):
                with self.assertRaises(NoStrand):
                    is_cut(HALF, strands)

    def test_what_is_handed_in_stays(self):
        half, strands = list(HALF), [0, 3]
        is_cut(half, strands)
        self.assertEqual((half, strands), (HALF, [0, 3]))


if __name__ == "__main__":
    unittest.main()
