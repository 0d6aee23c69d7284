"""Points 3, 24 and 25: what a cloth is, its strands side by side, its back and its quarter; points 1 and 5 of them."""

import itertools
import unittest

from heddle.cloth import back_of, ends_apart, measured, picks_apart, quarter_of
from heddle.errors import NoCloth, NoStrand
from samples import small_cloths

CLOTH = ["##..#",
         "#...#",
         "##..#"]

ASKED = {
    "measured": measured,
    "back_of": back_of,
    "quarter_of": quarter_of,
    "ends_apart": lambda cloth: ends_apart(cloth, 0, 0),
    "picks_apart": lambda cloth: picks_apart(cloth, 0, 0),
    "ends_apart, no such ends": lambda cloth: ends_apart(cloth, -1, 99),
    "picks_apart, no such picks": lambda cloth: picks_apart(cloth, -1, 99),
    "ends_apart, one wrong": lambda cloth: ends_apart(cloth, 0, 41),
    "picks_apart, one wrong": lambda cloth: picks_apart(cloth, 41, 0),
}


class TestWhatIsACloth(unittest.TestCase):
    def assert_no_cloth(self, texts):
        kept = list(texts)
        for name, asked in ASKED.items():
            with self.subTest(asked=name, texts=texts[:3]):
                with self.assertRaises(NoCloth):
                    asked(texts)
        self.assertEqual(texts, kept)

    def test_measured_tells_ends_and_picks(self):
        self.assertEqual(measured(CLOTH), (5, 3))
        self.assertEqual(measured(["#"]), (1, 1))
        self.assertEqual(measured(["."]), (1, 1))
        self.assertEqual(measured([".", "#"]), (1, 2))
        self.assertEqual(measured([".#"]), (2, 1))
        self.assertIs(type(measured(CLOTH)), tuple)

    def test_every_size_from_1_to_40_is_taken(self):
        for ends in range(1, 41):
            for picks in range(1, 41):
                self.assertEqual(measured(["#" * ends] * picks), (ends, picks))

    def test_40_by_40_is_taken_by_all(self):
        cloth = ["#." * 20, ".#" * 20] * 20
        self.assertEqual(measured(cloth), (40, 40))
        self.assertEqual(back_of(cloth), cloth)
        self.assertEqual(quarter_of(cloth), [".#" * 20, "#." * 20] * 20)
        self.assertEqual(ends_apart(cloth, 0, 39), 0)
        self.assertIsNone(picks_apart(cloth, 1, 39))

    def test_no_texts(self):
        self.assert_no_cloth([])

    def test_41_texts(self):
        self.assert_no_cloth(["#"] * 41)
        self.assert_no_cloth(["#." * 20] * 41)

    def test_an_empty_text(self):
        self.assert_no_cloth([""])
        self.assert_no_cloth(["", ""])
        self.assert_no_cloth(["", "#"])
        self.assert_no_cloth(["#", ""])
        self.assert_no_cloth(["#", "", "#"])

    def test_a_text_of_41_signs(self):
        self.assert_no_cloth(["#" * 41])
        self.assert_no_cloth(["#" * 41] * 40)
        self.assert_no_cloth(["#" * 40, "#" * 41])
        self.assert_no_cloth(["#" * 41, "#" * 40])

    def test_a_text_longer_or_shorter_than_the_first(self):
        for length in (1, 2, 4, 5):
            self.assert_no_cloth(["###", "#" * length])
            self.assert_no_cloth(["#" * length, "###"])
            self.assert_no_cloth(["###", "###", "#" * length, "###"])

    def test_another_sign_at_any_place(self):
        for j in range(3):
            for k in range(5):
                for sign in "?ox+ $aA0-":
                    texts = list(CLOTH)
                    texts[j] = texts[j][:k] + sign + texts[j][k + 1:]
                    self.assert_no_cloth(texts)

    def test_another_sign_at_the_last_place_of_the_largest_cloth(self):
        self.assert_no_cloth(["." * 40] * 39 + ["." * 39 + "?"])


class TestStrandsSideBySide(unittest.TestCase):
    def test_ends(self):
        self.assertEqual(ends_apart(CLOTH, 0, 1), 1)
        self.assertEqual(ends_apart(CLOTH, 1, 0), 1)
        self.assertEqual(ends_apart(CLOTH, 0, 2), 0)
        self.assertEqual(ends_apart(CLOTH, 1, 3), 0)
        self.assertIsNone(ends_apart(CLOTH, 0, 4))
        self.assertIsNone(ends_apart(CLOTH, 2, 3))

    def test_picks(self):
        self.assertEqual(picks_apart(CLOTH, 0, 1), 1)
        self.assertEqual(picks_apart(CLOTH, 2, 1), 1)
        self.assertIsNone(picks_apart(CLOTH, 0, 2))

    def test_different_at_the_first_or_at_the_last_place_alone(self):
        self.assertEqual(ends_apart(["#.", "##", ".."], 0, 1), 0)
        self.assertEqual(ends_apart(["##", "..", "#."], 0, 1), 2)
        self.assertEqual(picks_apart(["#..", "..."], 0, 1), 0)
        self.assertEqual(picks_apart(["#..", "#.#"], 0, 1), 2)
        self.assertEqual(picks_apart(["." * 40, "." * 39 + "#"], 0, 1), 39)
        self.assertEqual(ends_apart([".."] * 39 + [".#"], 0, 1), 39)

    def test_a_strand_is_not_different_from_itself(self):
        for end in range(5):
            self.assertIsNone(ends_apart(CLOTH, end, end))
        for pick in range(3):
            self.assertIsNone(picks_apart(CLOTH, pick, pick))

    def test_all_small_cloths(self):
        for cloth in small_cloths():
            ends, picks = measured(cloth)
            for one, other in itertools.product(range(ends), repeat=2):
                places = [j for j in range(picks) if cloth[j][one] != cloth[j][other]]
                self.assertEqual(ends_apart(cloth, one, other), places[0] if places else None)
            for one, other in itertools.product(range(picks), repeat=2):
                places = [k for k in range(ends) if cloth[one][k] != cloth[other][k]]
                self.assertEqual(picks_apart(cloth, one, other), places[0] if places else None)

    def test_ends_that_the_cloth_does_not_have(self):
        for wrong in (-1, -5, -6, 5, 6, 8, 10 ** 69, -10 ** 69):
            for one, other in ((wrong, 0), (0, wrong), (wrong, wrong)):
                with self.assertRaises(NoStrand):
                    ends_apart(CLOTH, one, other)

    def test_picks_that_the_cloth_does_not_have(self):
        for wrong in (-1, -3, -4, 3, 4, 5, 10 ** 69, -10 ** 69):
            for one, other in ((wrong, 0), (0, wrong), (wrong, wrong)):
                with self.assertRaises(NoStrand):
                    picks_apart(CLOTH, one, other)

    def test_the_last_strand_of_each_kind_is_taken(self):
        self.assertEqual(ends_apart(CLOTH, 4, 3), 0)
        self.assertEqual(picks_apart(CLOTH, 2, 1), 1)
        self.assertEqual(ends_apart([".#"], 1, 0), 0)
        self.assertEqual(picks_apart([".", "#"], 1, 0), 0)


class TestBackAndQuarter(unittest.TestCase):
    def test_back_told_sign_by_sign(self):
        self.assertEqual(back_of(CLOTH), [".##..",
                                          ".###.",
                                          ".##.."])
        self.assertEqual(back_of(["##."]), ["#.."])
        self.assertEqual(back_of(["#", "."]), [".", "#"])

    def test_quarter_told_sign_by_sign(self):
        self.assertEqual(quarter_of(CLOTH), ["...",
                                             ".#.",
                                             "###",
                                             "###",
                                             "..."])
        self.assertEqual(quarter_of(["##."]), [".", ".", "#"])
        self.assertEqual(quarter_of(["#", "."]), [".#"])

    def test_all_small_cloths(self):
        for cloth in small_cloths():
            ends, picks = measured(cloth)
            back = back_of(cloth)
            quarter = quarter_of(cloth)
            self.assertEqual(measured(back), (ends, picks))
            self.assertEqual(measured(quarter), (picks, ends))
            for j in range(picks):
                for k in range(ends):
                    self.assertNotEqual(back[j][ends - 1 - k], cloth[j][k])
                    self.assertNotEqual(quarter[k][j], cloth[j][k])

    def test_twice_over_is_the_cloth_again(self):
        for cloth in small_cloths() + [CLOTH, ["#.." * 13 + "#"] * 7]:
            self.assertEqual(back_of(back_of(cloth)), cloth)
            self.assertEqual(quarter_of(quarter_of(cloth)), cloth)


class TestTheAskersOwn(unittest.TestCase):
    def test_what_is_handed_in_stays_as_it_was(self):
        cloth = list(CLOTH)
        for asked in (measured, back_of, quarter_of):
            asked(cloth)
        ends_apart(cloth, 0, 1)
        picks_apart(cloth, 0, 1)
        self.assertEqual(cloth, CLOTH)

    def test_changing_what_was_told_changes_nothing(self):
        # The plain square is its own back, and yet may not be handed back itself.
        for asked, handed_in in ((back_of, ["#.", ".#"]), (back_of, CLOTH), (quarter_of, CLOTH)):
            cloth = list(handed_in)
            told = asked(cloth)
            kept = list(told)
            self.assertIsNot(told, cloth)
            told[0] = "changed"
            told.append("more")
            self.assertEqual(cloth, handed_in)
            self.assertEqual(asked(cloth), kept)

    def test_changing_what_was_handed_in_does_not_change_what_was_told(self):
        for asked in (back_of, quarter_of):
            cloth = list(CLOTH)
            told = asked(cloth)
            kept = list(told)
            cloth[0] = "....."
            cloth.append("#####")
            self.assertEqual(told, kept)
            self.assertNotEqual(asked(cloth), kept)

    def test_kinds(self):
        for asked in (back_of, quarter_of):
            self.assertIs(type(asked(CLOTH)), list)
            self.assertTrue(all(type(text) is str for text in asked(CLOTH)))
        self.assertIs(type(ends_apart(CLOTH, 0, 2)), int)
        self.assertIs(type(picks_apart(CLOTH, 0, 1)), int)


if __name__ == "__main__":
    unittest.main()
