"""Points 61, 62 and 63: pieces laid together, and cloths taken apart; points 1, 3 and 5 of them."""

import copy
import itertools
import random
import unittest

from heddle.errors import NoCloth, NoLaying
from heddle.layers import layers_of
from heddle.laying import laid_together, taken_apart
from samples import NO_CLOTHS, all_cloths, hang_together, small_cloths, some_cloths, strands_of, twill

PLAIN = ["#.", ".#"]
TURNED = [".#", "#."]


class TestLaidTogether(unittest.TestCase):
    def assert_laid(self, pieces, ends, picks, cloth):
        kept = copy.deepcopy((pieces, ends, picks))
        self.assertEqual(laid_together(pieces, ends, picks), cloth)
        self.assertEqual((pieces, ends, picks), kept)

    def test_one_piece(self):
        for cloth in (PLAIN, ["#"], ["."], ["##.", "..#"]):
            self.assert_laid([cloth], [0] * len(cloth[0]), [0] * len(cloth), cloth)

    def test_two_pieces_by_turns(self):
        self.assert_laid([PLAIN, TURNED], [0, 1, 0, 1], [0, 1, 0, 1], ["#...", "#.##", "..#.", "###."])

    def test_two_pieces_side_by_side(self):
        self.assert_laid([PLAIN, PLAIN], [0, 0, 1, 1], [0, 0, 1, 1], ["#...", ".#..", "###.", "##.#"])
        self.assert_laid([PLAIN, PLAIN], [1, 1, 0, 0], [1, 1, 0, 0], ["#.##", ".###", "..#.", "...#"])

    def test_pieces_of_ends_alone_and_of_picks_alone(self):
        self.assert_laid([[], ["", ""]], [0, 0, 0], [1, 1], ["###", "###"])
        self.assert_laid([[""], []], [1, 1], [0], [".."])
        self.assert_laid([[], PLAIN, ["", ""], []], [1, 0, 1, 3], [2, 1, 1, 2], ["###.", "##..", ".##.", "###."])

    def test_pieces_to_which_nothing_belongs(self):
        self.assert_laid([[], PLAIN, []], [1, 1], [1, 1], PLAIN)
        self.assert_laid([[]] * 99 + [["#"]], [99], [99], ["#"])

    def test_unlike_counts(self):
        self.assert_laid([["#.#"], ["#", ".", "."]], [0, 0, 1, 0], [1, 0, 1, 1], ["####", "#..#", "##.#", "##.#"])

    def test_sign_by_sign(self):
        source = random.Random("laying")
        for _ in range(200):
            count = source.randint(1, 5)
            ends = [source.randrange(count) for _ in range(source.randint(1, 9))]
            picks = [source.randrange(count) for _ in range(source.randint(1, 9))]
            pieces = [["".join(source.choice("#.") for _ in range(ends.count(number)))
                       for _ in range(picks.count(number))] for number in range(count)]
            cloth = laid_together(pieces, ends, picks)
            self.assertEqual((len(cloth), {len(text) for text in cloth}), (len(picks), {len(ends)}))
            for pick, end in itertools.product(range(len(picks)), range(len(ends))):
                piece = picks[pick]
                if piece == ends[end]:
                    sign = pieces[piece][picks[:pick].count(piece)][ends[:end].count(piece)]
                else:
                    sign = "#" if ends[end] < piece else "."
                self.assertEqual(cloth[pick][end], sign)

    def test_the_largest(self):
        cloth = ["#." * 20] * 40
        self.assert_laid([cloth], [0] * 40, [0] * 40, cloth)
        self.assert_laid([[]] * 40 + [[""]] * 40, list(range(40)), list(range(40, 80)), ["#" * 40] * 40)

    def assert_refused(self, pieces, ends, picks):
        kept = copy.deepcopy((pieces, ends, picks))
        with self.subTest(pieces=pieces[:3], ends=ends[:5], picks=picks[:5]):
            with self.assertRaises(NoLaying):
                laid_together(pieces, ends, picks)
        self.assertEqual((pieces, ends, picks), kept)

    def test_counts_of_ends_and_picks(self):
        self.assert_refused([[""]], [], [0])
        self.assert_refused([[]], [0], [])
        self.assert_refused([[]], [], [])
        self.assert_refused([], [], [])
        self.assert_refused([["#" * 41]], [0] * 41, [0])
        self.assert_refused([["#"] * 41], [0], [0] * 41)

    def test_numbers_that_are_no_pieces(self):
        for wrong in (-1, -2, 2, 3, 100, 10 ** 69, -10 ** 69):
            self.assert_refused([["#"], []], [wrong], [0])
            self.assert_refused([["#"], []], [0], [wrong])
            self.assert_refused([["#"], []], [0, wrong], [0])
            self.assert_refused([["#"], []], [0], [0, wrong])
            self.assert_refused([["#"], ["#"]], [0, wrong], [0, wrong])
        self.assert_refused([], [0], [0])

    def test_texts_too_many_or_too_few(self):
        for piece in ([], ["#."], PLAIN + ["#."], PLAIN + [""]):
            self.assert_refused([piece], [0, 0], [0, 0])
            self.assert_refused([["#"], piece], [0, 1, 1], [1, 0, 1])
        self.assert_refused([[""], []], [0], [1])
        self.assert_refused([[], [""]], [0, 1], [0])
        self.assert_refused([[]], [0], [0])

    def test_signs_too_many_or_too_few(self):
        for piece in (["#.", "."], ["#", ".#"], ["#.", ".##"], ["#..", ".#"], ["", ""], ["#", "."], ["#..", "#.."]):
            self.assert_refused([piece], [0, 0], [0, 0])
            self.assert_refused([["#"], piece], [0, 1, 1], [1, 0, 1])
        self.assert_refused([[], ["#"]], [0], [1])

    def test_another_sign(self):
        for sign in "? +aAx0-":
            self.assert_refused([["#" + sign, ".#"]], [0, 0], [0, 0])
            self.assert_refused([["#.", "." + sign]], [0, 0], [0, 0])
            self.assert_refused([["#"], [sign]], [0, 1], [0, 1])

    def test_a_piece_to_which_nothing_belongs_that_is_not_empty(self):
        for piece in ([""], ["#"], ["", ""], PLAIN):
            self.assert_refused([PLAIN, piece], [0, 0], [0, 0])
            self.assert_refused([piece, PLAIN], [1, 1], [1, 1])

    def test_a_told_cloth_is_the_askers_own(self):
        piece = list(PLAIN)
        told = laid_together([piece], [0, 0], [0, 0])
        told[0] = "changed"
        told.append("more")
        self.assertEqual(piece, PLAIN)
        self.assertEqual(laid_together([piece], [0, 0], [0, 0]), PLAIN)


class TestTakenApart(unittest.TestCase):
    def test_worked_out_by_hand(self):
        self.assertEqual(taken_apart(PLAIN), ([PLAIN], [0, 0], [0, 0]))
        self.assertEqual(taken_apart(["#...", "#.##", "..#.", "###."]),
                         ([PLAIN, TURNED], [0, 1, 0, 1], [0, 1, 0, 1]))

    def test_layers_of_one_strand_each(self):
        self.assertEqual(taken_apart(["#"]), ([[], [""]], [0], [1]))
        self.assertEqual(taken_apart(["."]), ([[""], []], [1], [0]))
        self.assertEqual(taken_apart(["##", "##"]), ([[], [], [""], [""]], [0, 1], [2, 3]))
        self.assertEqual(taken_apart(["#.", "##"]), ([[], [""], [], [""]], [0, 2], [1, 3]))

    def test_laid_together_again_it_is_the_cloth(self):
        for cloth in small_cloths() + all_cloths(4, 3) + some_cloths(60, 40, "apart"):
            kept = list(cloth)
            pieces, ends, picks = taken_apart(cloth)
            self.assertEqual(laid_together(pieces, ends, picks), cloth)
            self.assertEqual(len(pieces), len(layers_of(cloth)))
            self.assertEqual(cloth, kept)

    def test_pieces_that_hang_together_come_back(self):
        source = random.Random("back")
        good = [cloth for cloth in all_cloths(2, 2) + all_cloths(3, 2) + all_cloths(2, 3) + all_cloths(3, 3)
                if hang_together(cloth, strands_of(cloth))] + [twill(2, 2), twill(1, 3)]
        for _ in range(150):
            pieces = [source.choice(good) for _ in range(source.randint(1, 6))]
            ends = [number for number, piece in enumerate(pieces) for _ in piece[0]]
            picks = [number for number, piece in enumerate(pieces) for _ in piece]
            source.shuffle(ends)
            source.shuffle(picks)
            self.assertEqual(taken_apart(laid_together(pieces, ends, picks)), (pieces, ends, picks))

    def test_no_cloth(self):
        for texts in NO_CLOTHS:
            with self.assertRaises(NoCloth):
                taken_apart(texts)

    def test_the_askers_own(self):
        cloth = ["##", "##"]
        told = taken_apart(cloth)
        self.assertIs(type(told), tuple)
        self.assertEqual([type(part) for part in told], [list] * 3)
        parts = [told[0], told[1], told[2]] + told[0]
        self.assertEqual(len({id(part) for part in parts}), len(parts))
        for part in parts:
            part.append("more")
        self.assertEqual(taken_apart(cloth), ([[], [], [""], [""]], [0, 1], [2, 3]))
        self.assertEqual(cloth, ["##", "##"])


if __name__ == "__main__":
    unittest.main()
