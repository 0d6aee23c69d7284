"""Point 73: half cloths finished; points 1 and 5 of it."""

import random
import unittest

from heddle.errors import NoCloth
from heddle.finish import finished_cloth
from heddle.half import is_cut
from heddle.ways import lifted_off
from samples import hang_together, satin, some_cloths, stairs, strands_of, twill
from test_half import NO_HALVES, all_halves, finishings


class FinishTest(unittest.TestCase):
    def assert_cut(self, half):
        kept = list(half)
        told = finished_cloth(half)
        self.assertIs(type(told), tuple)
        self.assertEqual((len(told), told[0]), (2, "cut"))
        self.assertIs(type(told[1]), list)
        self.assertIs(is_cut(half, told[1]), True, (half, told))
        self.assertEqual(half, kept)

    def assert_finished(self, half):
        """All that point 73 says of a finishing, but that it is the first one."""
        kept = list(half)
        told = finished_cloth(half)
        self.assertIs(type(told), tuple)
        self.assertEqual((len(told), told[0]), (3, "cloth"))
        rows, forced = told[1:]
        self.assertEqual((type(rows), type(forced)), (list, list))
        self.assertEqual([len(text) for text in rows], [len(text) for text in half])
        # lifted_off has tests of its own, and is quick also for large cloths.
        self.assertIsNone(lifted_off(rows, strands_of(rows)))
        below = []
        for pick, text in enumerate(half):
            for end, sign in enumerate(text):
                self.assertIn(rows[pick][end], "#." if sign == "?" else sign)
                if sign == "?" and rows[pick][end] == ".":
                    below.append((pick, end))
        self.assertEqual([place[:2] for place in forced], below)
        for pick, end, strands in forced:
            turned = half[pick]
            part = rows[:pick] + [rows[pick][:end] + "#" + turned[end + 1:]] + half[pick + 1:]
            self.assertIs(is_cut(part, strands), True, (half, pick, end, strands))
        self.assertTrue(all(type(place) is tuple for place in forced))
        self.assertEqual(half, kept)
        return rows

    def assert_first(self, half):
        """The same, with all finishings tried."""
        hanging = [rows for rows in finishings(half) if hang_together(rows, strands_of(rows))]
        if hanging:
            self.assertEqual(self.assert_finished(half), hanging[0])
        else:
            self.assert_cut(half)


class TestSmall(FinishTest):
    def test_worked_out_by_hand(self):
        self.assertEqual(finished_cloth(["??", "??"])[:2], ("cloth", ["#.", ".#"]))
        self.assertEqual([place[:2] for place in finished_cloth(["??", "??"])[2]], [(0, 1), (1, 0)])
        self.assertEqual(finished_cloth(["?.", "?#"])[:2], ("cloth", ["#.", ".#"]))
        self.assertEqual([place[:2] for place in finished_cloth(["?.", "?#"])[2]], [(1, 0)])
        self.assertEqual(finished_cloth(["???", "???"])[:2], ("cloth", ["##.", "..#"]))
        for half in (["??", "??"], ["?.", "?#"], ["???", "???"]):
            self.assert_finished(half)

    def test_cuts_worked_out_by_hand(self):
        self.assertEqual(finished_cloth(["#?", "#?"]), ("cut", [0]))
        self.assertEqual(finished_cloth(["..", "??"]), ("cut", [2]))
        self.assert_cut(["##", "##"])
        self.assert_cut(["#..", "...", "???"])

    def test_all_places_told(self):
        for cloth in (["#.", ".#"], [".#", "#."], twill(2, 2), satin(5, 2), stairs(4)):
            self.assertEqual(finished_cloth(cloth), ("cloth", cloth, []))
        self.assert_cut(["#.", "#."])

    def test_forced_are_the_places_that_became_points_alone(self):
        self.assertEqual(finished_cloth(["#.", ".?"]), ("cloth", ["#.", ".#"], []))
        word, rows, forced = finished_cloth([".#", "#?"])
        self.assertEqual((word, rows), ("cloth", [".#", "#."]))
        self.assertEqual([place[:2] for place in forced], [(1, 1)])
        self.assertTrue(is_cut([".#", "##"], forced[0][2]))

    def test_all_halves_of_two_by_two(self):
        for half in all_halves(2, 2):
            self.assert_first(half)

    def test_some_larger_halves_with_all_finishings_tried(self):
        source = random.Random("finish")
        for half in all_halves(3, 2)[::7] + all_halves(2, 3)[::7]:
            self.assert_first(half)
        for half in some_cloths(80, 4, "finish", signs="?#.", least=2):
            places = [(pick, end) for pick, text in enumerate(half) for end, sign in enumerate(text) if sign == "?"]
            source.shuffle(places)
            # All but eight of the places are told, so that the finishings stay few.
            for pick, end in places[8:]:
                half[pick] = half[pick][:end] + source.choice("#.") + half[pick][end + 1:]
            self.assert_first(half)

    def test_no_place_told(self):
        for ends, picks in ((2, 2), (2, 3), (3, 2), (3, 3), (4, 2)):
            self.assert_first(["?" * ends] * picks)
        self.assert_finished(["?" * 5] * 9)


class TestLarge(FinishTest):
    def test_no_place_told(self):
        for ends, picks in ((40, 40), (2, 40), (40, 2)):
            rows = self.assert_finished(["?" * ends] * picks)
            # As many "#" as can be come first, and each strand needs one of both signs.
            self.assertEqual(rows[0], "#" * (ends - 1) + ".")
            self.assertEqual(rows[-1][-1], "#")

    def test_many_places_not_told(self):
        for seed in ("one", "two", "three"):
            source = random.Random(seed)
            half = ["".join(source.choices("?#.", (8, 1, 1), k=40)) for _ in range(40)]
            self.assert_finished(half)

    def test_stairs_with_the_places_between_not_told(self):
        for cloth in (stairs(40), twill(1, 39), twill(39, 1)):
            half = ["".join("?" if (end + 2 * pick) % 3 else sign for end, sign in enumerate(text))
                    for pick, text in enumerate(cloth)]
            self.assert_finished(half)

    def test_cuts(self):
        self.assert_cut(["#" + "?" * 39] * 40)
        self.assert_cut(["?" * 40] * 39 + ["." * 40])
        self.assert_cut(["?" * 20 + "." * 20] * 20 + ["#" * 20 + "?" * 20] * 20)


class TestHandedIn(FinishTest):
    def test_no_half_cloth(self):
        for texts in NO_HALVES:
            with self.subTest(texts=texts[:3]):
                with self.assertRaises(NoCloth):
                    finished_cloth(texts)

    def test_the_askers_own(self):
        for half in (["??", "??"], ["#?", "#?"], ["#.", ".#"]):
            kept = list(half)
            first, told = finished_cloth(half), finished_cloth(half)
            self.assertEqual(told, first)
            self.assertIsNot(told[1], half)
            if told[0] == "cloth":
                for place in told[2]:
                    place[2].append(99)
                told[2].append(None)
            told[1].append(99)
            self.assertEqual(half, kept)
            self.assertEqual(finished_cloth(half), first)


if __name__ == "__main__":
    unittest.main()
