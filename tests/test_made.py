"""Point 86: drafts made for pictures; points 1, 81 and 84 of them."""

import random
import unittest

from heddle.colours import free_half, picture_of
from heddle.drafts import Draft, least_draft, woven
from heddle.errors import NoColour
from heddle.finish import finished_cloth
from heddle.half import is_cut
from heddle.made import made_draft
from heddle.paint import first_colouring
from samples import hang_together, some_cloths, strands_of, twill
from test_colours import NO_PICTURES, as_long
from test_half import finishings
from test_paint import COLOURS, PaintTest


def parts(draft):
    return (draft.threading, draft.ties, draft.treading)


class TestMade(PaintTest):
    def assert_made(self, picture, warp, weft):
        """All that point 86 says; tells the word with which the answer begins."""
        kept = list(picture)
        told = made_draft(picture, warp, weft)
        self.assertEqual(picture, kept)
        self.assertIs(type(told), tuple)
        colouring = first_colouring(picture, warp, weft)
        if told[0] == "none":
            self.assertEqual(colouring[0], "none")
            self.assertEqual(len(told), 3)
            may = COLOURS if (warp + weft)[told[1]] == "?" else (warp + weft)[told[1]]
            self.assertEqual("".join(colour for colour, chain in told[2]), may)
            for colour, chain in told[2]:
                self.assert_chain(picture, warp + weft, told[1], colour, chain)
            return "none"
        self.assertEqual(len(told), 4)
        if told[0] == "cut":
            self.assertEqual(told[1:3], colouring[1:])
            self.assertIs(is_cut(free_half(picture, told[1], told[2]), told[3]), True)
            return "cut"
        self.assertEqual(told[0], "draft")
        self.assertIsInstance(told[1], Draft)
        self.assertEqual(told[2:], colouring[1:])
        cloth = woven(told[1])
        self.assertEqual(picture_of(cloth, told[2], told[3]), picture)
        self.assertEqual(finished_cloth(free_half(picture, told[2], told[3]))[1], cloth)
        self.assertEqual(parts(told[1]), parts(least_draft(cloth)))
        return "draft"

    def test_a_draft_worked_out_by_hand(self):
        told = made_draft(["aa", "aa"], "aa", "aa")
        self.assertEqual((told[0], told[2], told[3]), ("draft", "aa", "aa"))
        self.assertEqual(parts(told[1]), ([0, 1], [[0], [1]], [0, 1]))
        told = made_draft(["ab", "ba"], "aa", "bb")
        self.assertEqual(told[0], "draft")
        self.assertEqual(parts(told[1]), ([0, 1], [[0], [1]], [0, 1]))

    def test_the_first_colouring_alone_is_taken(self):
        # With the first colouring, all ends a and all picks b, both picks lie over both ends.
        self.assertEqual(made_draft(["bb", "bb"], "??", "??")[:3], ("cut", "aa", "bb"))
        self.assert_made(["bb", "bb"], "??", "??")

    def test_a_cut(self):
        self.assertEqual(self.assert_made(["ab", "ab"], "ab", "cd"), "cut")
        self.assertEqual(self.assert_made(["aab", "bab"], "aab", "bb"), "cut")

    def test_none(self):
        self.assertEqual(self.assert_made(["abc", "bca", "cab"], "???", "???"), "none")
        self.assertEqual(self.assert_made(["ab", "cd"], "fe", "??"), "none")

    def test_of_unlike_counts(self):
        for cloth in (["#.#", ".#."], ["#.", ".#", "#."], twill(2, 3)):
            warp, weft = "a" * len(cloth[0]), "b" * len(cloth)
            picture = picture_of(cloth, warp, weft)
            told = made_draft(picture, "?" * len(warp), "?" * len(weft))
            self.assertEqual((told[0], told[2], told[3]), ("draft", warp, weft))
            self.assertEqual(woven(told[1]), cloth)

    def test_each_kind_of_answer(self):
        source = random.Random("made")
        answers = []
        for cloth in some_cloths(150, 7, "made", least=2):
            colours = source.choice(("a", "ab", "abc"))
            warp = "".join(source.choices(colours, k=len(cloth[0])))
            weft = "".join(source.choices(colours, k=len(cloth)))
            picture = picture_of(cloth, warp, weft)
            told = ["".join(source.choice("?" + sign) for sign in text) for text in (warp, weft)]
            if source.random() < 0.3:
                picture[0] = source.choice("def") + picture[0][1:]
            answers.append(self.assert_made(picture, *told))
        for word in ("none", "cut", "draft"):
            self.assertGreater(answers.count(word), 5)

    def test_the_first_finishing_with_all_tried(self):
        source = random.Random("tried")
        for cloth in some_cloths(60, 3, "tried", least=2):
            warp = "".join(source.choices("ab", k=len(cloth[0])))
            weft = "".join(source.choices("ab", k=len(cloth)))
            picture = picture_of(cloth, warp, weft)
            told = made_draft(picture, warp, weft)
            hanging = [rows for rows in finishings(free_half(picture, warp, weft))
                       if hang_together(rows, strands_of(rows))]
            if hanging:
                self.assertEqual(told[0], "draft")
                self.assertEqual(woven(told[1]), hanging[0])
            else:
                self.assertEqual(told[0], "cut")

    def test_40_by_40(self):
        self.assertEqual(self.assert_made(["a" * 40] * 40, "a" * 40, "a" * 40), "draft")
        source = random.Random("large")
        cloth = ["".join(source.choices("#.", k=40)) for _ in range(40)]
        warp = "".join(source.choices(COLOURS, k=40))
        weft = "".join(source.choices(COLOURS, k=40))
        self.assertEqual(self.assert_made(picture_of(cloth, warp, weft), warp, weft), "draft")
        self.assert_made(picture_of(cloth, warp, weft), "?" * 40, "?" * 40)


class TestRefusals(unittest.TestCase):
    def test_one_end_or_one_pick(self):
        for picture in (["a"], ["ab"], ["a", "b"], ["a" * 40], ["a"] * 40):
            for sign in "a?":
                with self.assertRaises(NoColour):
                    made_draft(picture, sign * len(picture[0]), sign * len(picture))

    def test_no_picture(self):
        for picture in NO_PICTURES:
            for warp, weft in (("?", "?"), ("??", "??"), ("", ""), as_long(picture, "?")):
                with self.assertRaises(NoColour):
                    made_draft(picture, warp, weft)

    def test_threads_that_do_not_fit(self):
        for warp, weft in (("", "??"), ("?", "??"), ("???", "??"), ("?g", "??"), ("??", ""), ("??", "?"), ("??", "???"),
                           ("??", "#?"), ("a ", "??")):
            with self.assertRaises(NoColour):
                made_draft(["ab", "ba"], warp, weft)

    def test_the_askers_own(self):
        picture = ["aa", "aa"]
        told = made_draft(picture, "aa", "aa")
        told[1].ties[0].append(5)
        told[1].threading.append(5)
        self.assertEqual(parts(made_draft(picture, "aa", "aa")[1]), ([0, 1], [[0], [1]], [0, 1]))
        cut = made_draft(["bb", "bb"], "??", "??")
        kept = list(cut[3])
        cut[3].append(9)
        self.assertEqual(made_draft(["bb", "bb"], "??", "??")[3], kept)
        self.assertEqual(picture, ["aa", "aa"])


if __name__ == "__main__":
    unittest.main()
