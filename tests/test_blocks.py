"""Points 91, 92 and 93: blocks filled, woven, and found again; points 1, 3 and 5 of them."""

import itertools
import unittest

from heddle.blocks import block_draft, filled_blocks, profile_of
from heddle.drafts import Draft, least_draft, woven
from heddle.endless import tiled
from heddle.errors import NoBlock, NoCloth, TooLarge
from samples import NO_CLOTHS, all_cloths, small_cloths, some_cloths, twill

ONE = ["##.",
       "#.."]
OTHER = ["...",
         "..#"]
PROFILE = ["#.",
           "##",
           ".#"]


def parts(draft):
    return (draft.threading, draft.ties, draft.treading)


class BlocksTest(unittest.TestCase):
    def assert_refused(self, refusal, profile, one, other):
        for asked in (filled_blocks, block_draft):
            with self.subTest(asked=asked.__name__, one=one[:2], other=other[:2]):
                with self.assertRaises(refusal):
                    asked(profile, one, other)


class TestFilled(BlocksTest):
    def test_sign_by_sign(self):
        self.assertEqual(filled_blocks(PROFILE, ONE, OTHER), ["##....",
                                                              "#....#",
                                                              "##.##.",
                                                              "#..#..",
                                                              "...##.",
                                                              "..##.."])
        self.assertEqual(filled_blocks(["#."], ["#"], ["."]), ["#."])
        self.assertEqual(filled_blocks(["#"], ONE, OTHER), ONE)
        self.assertEqual(filled_blocks(["."], ONE, OTHER), OTHER)

    def test_each_place(self):
        for profile, one in itertools.product(some_cloths(6, 6, "profiles"), some_cloths(6, 6, "units")):
            wide, high = len(one[0]), len(one)
            other = ["".join("#" if (x * y) % 3 else "." for x in range(wide)) for y in range(high)]
            cloth = filled_blocks(profile, one, other)
            self.assertEqual((len(cloth), len(cloth[0])), (len(profile) * high, len(profile[0]) * wide))
            for y, x in itertools.product(range(len(cloth)), range(len(cloth[0]))):
                unit = one if profile[y // high][x // wide] == "#" else other
                self.assertEqual(cloth[y][x], unit[y % high][x % wide])

    def test_a_side_of_just_40_and_of_more(self):
        self.assertEqual(filled_blocks(["#" * 40] * 40, ["#"], ["."]), ["#" * 40] * 40)
        self.assertEqual(filled_blocks(["#"], ["#." * 20] * 40, ["." * 40] * 40), ["#." * 20] * 40)
        self.assertEqual(filled_blocks(["#." * 4] * 5, ["#####"] * 8, ["....."] * 8), ["#####....." * 4] * 40)
        self.assert_refused(TooLarge, ["#" * 21], ["##"], [".."])
        self.assert_refused(TooLarge, ["#"] * 21, ["#", "#"], [".", "."])
        self.assert_refused(TooLarge, ["#" * 40] * 40, ["#" * 40] * 40, ["." * 40] * 40)
        self.assert_refused(TooLarge, ["#" * 14], ONE, OTHER)

    def test_units_of_two_sizes_ahead_of_too_large(self):
        for one, other in ((["#"], ["##"]), (["#"], ["#", "#"]), (ONE, ["##", "##"]), (ONE, ["###"]),
                           (["##."], ["#", "#", "#"])):
            self.assert_refused(NoBlock, PROFILE, one, other)
            self.assert_refused(NoBlock, PROFILE, other, one)
            self.assert_refused(NoBlock, ["#" * 40] * 40, one, other)

    def test_no_cloth_ahead_of_both(self):
        for texts in NO_CLOTHS:
            self.assert_refused(NoCloth, texts, ONE, OTHER)
            self.assert_refused(NoCloth, texts, ONE, ["#"])
            self.assert_refused(NoCloth, PROFILE, texts, OTHER)
            self.assert_refused(NoCloth, PROFILE, ONE, texts)
            self.assert_refused(NoCloth, ["#" * 40] * 40, ONE, texts)
            self.assert_refused(NoCloth, ["#" * 40] * 40, texts, ["#"])


class TestBlockDraft(BlocksTest):
    def test_worked_out_by_hand(self):
        # The profile's least draft: threading 0 1, ties 0 / 0 1 / 1, treading 0 1 2. Of the units, ends 0 and 1 are
        # unlike by the first one's second pick, end 2 by its first: e is 3; the picks are unlike: f is 2.
        draft = block_draft(PROFILE, ONE, OTHER)
        self.assertIsInstance(draft, Draft)
        self.assertEqual(draft.threading, [0, 1, 2, 3, 4, 5])
        self.assertEqual(draft.treading, [0, 1, 2, 3, 4, 5])
        self.assertEqual(draft.ties, [[0, 1], [0, 5], [0, 1, 3, 4], [0, 3], [3, 4], [2, 3]])

    def test_strands_that_are_alike(self):
        # Ends 0 and 2 of the units are alike in both, ends 0 and 1 in the second alone; picks 0 and 1 in both.
        one = ["#.#", "#.#", ".#."]
        other = ["...", "...", "###"]
        # Ends 0 and 2 and picks 0 and 1 of the profile are alike.
        profile = ["#.#", "#.#", "..."]
        draft = block_draft(profile, one, other)
        self.assertEqual(draft.threading, [0, 1, 0, 2, 3, 2, 0, 1, 0])
        self.assertEqual(draft.treading, [0, 0, 1, 0, 0, 1, 2, 2, 3])
        self.assertEqual(draft.ties, [[0], [1, 2, 3], [], [0, 1, 2, 3]])
        self.assertEqual(woven(draft), filled_blocks(profile, one, other))

    def test_units_that_are_one(self):
        # Nothing tells the two treadles of the profile apart in the cloth, and they are two all the same.
        draft = block_draft(["#.", ".#"], ["#"], ["#"])
        self.assertEqual(parts(draft), ([0, 1], [[0, 1], [0, 1]], [0, 1]))
        draft = block_draft(["#.", ".#"], ["#.", "#."], ["#.", "#."])
        self.assertEqual(parts(draft), ([0, 1, 2, 3], [[0, 2], [0, 2]], [0, 0, 1, 1]))

    def test_as_point_92_tells(self):
        for profile in small_cloths()[::5] + some_cloths(8, 8, "p"):
            for one, other in (all_cloths(2, 2)[3:5], all_cloths(3, 2)[7:9], (ONE, OTHER), (twill(2, 3), twill(4, 1))):
                if len(profile[0]) * len(one[0]) > 40 or len(profile) * len(one) > 40:
                    continue
                draft = block_draft(profile, one, other)
                self.assertEqual(woven(draft), filled_blocks(profile, one, other))
                least = least_draft(profile)
                ends, picks = list(zip(zip(*one), zip(*other))), list(zip(one, other))
                unlike_ends, unlike_picks = list(dict.fromkeys(ends)), list(dict.fromkeys(picks))
                self.assertEqual(draft.threading, [shaft * len(unlike_ends) + unlike_ends.index(end)
                                                   for shaft in least.threading for end in ends])
                self.assertEqual(draft.treading, [treadle * len(unlike_picks) + unlike_picks.index(pick)
                                                  for treadle in least.treading for pick in picks])
                self.assertEqual(len(draft.ties), len(least.ties) * len(unlike_picks))

    def test_the_largest(self):
        profile = ["." * k + "#" + "." * (7 - k) for k in range(8)]
        draft = block_draft(profile, twill(2, 3), ["....."] * 5)
        self.assertEqual(draft.threading, list(range(40)))
        self.assertEqual(len(draft.ties), 40)
        self.assertEqual(woven(draft), filled_blocks(profile, twill(2, 3), ["....."] * 5))


class TestProfileOf(BlocksTest):
    def test_profiles_that_come_back(self):
        for profile in small_cloths() + some_cloths(10, 8, "back"):
            for one, other in ((["#"], ["."]), (["."], ["#"]), (ONE, OTHER), (twill(2, 3), twill(3, 2))):
                if len(profile[0]) * len(one[0]) <= 40 and len(profile) * len(one) <= 40:
                    self.assertEqual(profile_of(filled_blocks(profile, one, other), one, other), profile)

    def test_both_units_the_same(self):
        self.assertEqual(profile_of(tiled(ONE, 4, 3), ONE, list(ONE)), ["####"] * 3)
        self.assertEqual(profile_of(["#"], ["#"], ["#"]), ["#"])

    def test_a_part_that_is_neither_unit(self):
        self.assertIsNone(profile_of(["#."], ["#"], ["#"]))
        self.assertIsNone(profile_of(["#.", "##"], ["#.", ".#"], [".#", "#."]))
        cloth = filled_blocks(PROFILE, ONE, OTHER)
        for y, x in itertools.product(range(6), range(6)):
            other = "." if cloth[y][x] == "#" else "#"
            changed = cloth[:y] + [cloth[y][:x] + other + cloth[y][x + 1:]] + cloth[y + 1:]
            self.assertIsNone(profile_of(changed, ONE, OTHER))

    def test_cloths_not_made_of_whole_units(self):
        cloth = tiled(ONE, 3, 3)
        self.assertEqual(profile_of(cloth, ONE, OTHER), ["###"] * 3)
        self.assertIsNone(profile_of(cloth[:-1], ONE, OTHER))
        self.assertIsNone(profile_of([text[:-1] for text in cloth], ONE, OTHER))
        self.assertIsNone(profile_of(cloth + [cloth[0]], ONE, OTHER))
        self.assertIsNone(profile_of([text + "#" for text in cloth], ONE, OTHER))
        self.assertIsNone(profile_of(["#"], ["##"], [".."]))
        self.assertIsNone(profile_of(["##"], ["##", "##"], ["..", ".."]))

    def test_units_of_two_sizes(self):
        for one, other in ((["#"], ["##"]), (["#"], ["#", "#"]), (ONE, ["###"])):
            for cloth in (["#"], ONE, ["#" * 5] * 7):
                with self.assertRaises(NoBlock):
                    profile_of(cloth, one, other)
                with self.assertRaises(NoBlock):
                    profile_of(cloth, other, one)

    def test_no_cloth_ahead_of_all(self):
        for texts in NO_CLOTHS:
            for things in ((texts, ONE, OTHER), (ONE, texts, OTHER), (ONE, ONE, texts), (texts, ONE, ["#"]),
                           (["#"], ONE, texts), (["#"], texts, ["#"])):
                with self.assertRaises(NoCloth):
                    profile_of(*things)


class TestTheAskersOwn(BlocksTest):
    def test_it(self):
        profile, one, other = ["#"], list(ONE), list(OTHER)
        for asked in (filled_blocks, profile_of):
            told = asked(profile if asked == filled_blocks else one, one, other)
            kept = list(told)
            told[0] = "changed"
            told.append("more")
            self.assertEqual(asked(profile if asked == filled_blocks else one, one, other), kept)
        draft = block_draft(profile, one, other)
        kept = [list(tie) for tie in draft.ties]
        for tie in draft.ties:
            tie.append(39)
        self.assertEqual(block_draft(profile, one, other).ties, kept)
        self.assertEqual((profile, one, other), (["#"], ONE, OTHER))


if __name__ == "__main__":
    unittest.main()
