"""Points 52, 55, 56 and 57: ways between strands, ways round sets, and what lifts off; points 1, 3 and 5 of them."""

import itertools
import random
import unittest

from heddle.errors import NoCloth, NoStrand
from heddle.layers import layers_of
from heddle.ways import lifted_off, round_way, way_between
from samples import (NO_CLOTHS, crosses, hang_together, lies_over, small_cloths, some_cloths, stairs, strands_of,
                     twill)

CLOTH = ["##.",
         "#.#"]

WRONG = (-1, -5, 5, 6, 80, 10 ** 59, -10 ** 59, 10 ** 69)


def steps_from(cloth, start):
    """How many steps the shortest way has from a strand to each that it reaches, by widening rings."""
    steps, ring = {start: 0}, [start]
    while ring:
        ring = [other for other in strands_of(cloth) if other not in steps
                and any(crosses(cloth, one, other) and lies_over(cloth, one, other) for one in ring)]
        count = max(steps.values()) + 1
        steps.update({strand: count for strand in ring})
    return steps


class TestWayBetween(unittest.TestCase):
    def assert_way(self, cloth, way):
        for one, other in zip(way, way[1:]):
            self.assertTrue(crosses(cloth, one, other), (cloth, way))
            self.assertTrue(lies_over(cloth, one, other), (cloth, way))

    def test_worked_out_by_hand(self):
        # End 0 lies over both picks, and nothing over it; end 1 is under pick 1 alone, end 2 under pick 0 alone.
        self.assertEqual(way_between(CLOTH, 0, 3), [0, 3])
        self.assertEqual(way_between(CLOTH, 0, 4), [0, 4])
        self.assertEqual(way_between(CLOTH, 0, 2), [0, 3, 2])
        self.assertEqual(way_between(CLOTH, 3, 1), [3, 2, 4, 1])
        self.assertEqual(way_between(CLOTH, 1, 4), [1, 3, 2, 4])
        self.assertIsNone(way_between(CLOTH, 3, 0))
        self.assertIsNone(way_between(CLOTH, 2, 0))

    def test_the_same_strand_twice(self):
        for cloth in (CLOTH, ["#"], ["."], twill(2, 2)):
            for strand in strands_of(cloth):
                self.assertEqual(way_between(cloth, strand, strand), [strand])

    def test_no_way(self):
        self.assertIsNone(way_between(["#"], 1, 0))
        self.assertIsNone(way_between(["##"], 0, 1))
        self.assertIsNone(way_between(["#" * 40] * 40, 79, 0))

    def test_through_all_strands_of_stairs(self):
        for size in (2, 7, 40):
            line = [strand for k in range(size) for strand in (k, size + k)]
            self.assertEqual(way_between(stairs(size), 0, 2 * size - 1), line)
            self.assertEqual(way_between(stairs(size), 0, size - 1), line[:-1])

    def test_none_is_shorter(self):
        for cloth in small_cloths() + some_cloths(25, 9, "ways") + [stairs(6), twill(1, 5)]:
            for start in strands_of(cloth):
                steps = steps_from(cloth, start)
                for goal in strands_of(cloth):
                    way = way_between(cloth, start, goal)
                    if goal not in steps:
                        self.assertIsNone(way)
                        continue
                    self.assertEqual((way[0], way[-1], len(way)), (start, goal, steps[goal] + 1))
                    self.assert_way(cloth, way)

    def test_numbers_that_are_no_strands(self):
        for wrong in WRONG:
            for right in range(5):
                for one, other in ((wrong, right), (right, wrong), (wrong, wrong)):
                    with self.assertRaises(NoStrand):
                        way_between(CLOTH, one, other)

    def test_no_cloth_ahead_of_no_strand(self):
        for texts in NO_CLOTHS:
            for one, other in ((0, 0), (-1, 0), (0, 99)):
                with self.assertRaises(NoCloth):
                    way_between(texts, one, other)


class TestSets(unittest.TestCase):
    def assert_round(self, cloth, strands):
        """All that point 56 says of a way round."""
        way = round_way(cloth, strands)
        self.assertIs(type(way), list)
        self.assertEqual(way[0], strands[0])
        self.assertEqual(set(way), set(strands))
        self.assertLessEqual(len(way), len(strands) ** 2)
        if len(strands) == 1:
            self.assertEqual(way, strands)
        else:
            for one, other in zip(way, way[1:] + way[:1]):
                self.assertTrue(crosses(cloth, one, other), (cloth, way))
                self.assertTrue(lies_over(cloth, one, other), (cloth, way))
        self.assertIsNone(lifted_off(cloth, strands))

    def assert_lifts(self, cloth, strands):
        """All that point 57 says of what lifts off."""
        part = lifted_off(cloth, strands)
        self.assertIs(type(part), list)
        self.assertEqual(part, sorted(set(part)))
        self.assertTrue(0 < len(part) < len(strands))
        self.assertLessEqual(set(part), set(strands))
        for one in part:
            for other in set(strands) - set(part):
                if crosses(cloth, one, other):
                    self.assertTrue(lies_over(cloth, one, other), (cloth, part))
        self.assertIsNone(round_way(cloth, strands))

    def assert_either(self, cloth, strands):
        kept = (list(cloth), list(strands))
        if hang_together(cloth, strands):
            self.assert_round(cloth, strands)
        else:
            self.assert_lifts(cloth, strands)
        self.assertEqual((cloth, strands), kept)

    def test_worked_out_by_hand(self):
        self.assertEqual(round_way(["#.", ".#"], [0, 1, 2, 3]), [0, 2, 1, 3])
        self.assertIsNone(lifted_off(["#.", ".#"], [0, 1, 2, 3]))
        self.assertIsNone(round_way(["#"], [0, 1]))
        self.assertEqual(lifted_off(["#"], [0, 1]), [0])
        self.assertEqual(lifted_off(["."], [0, 1]), [1])
        self.assertEqual(lifted_off(CLOTH, [0, 1, 2, 3, 4]), [0])
        self.assert_round(CLOTH, [1, 2, 3, 4])

    def test_one_strand(self):
        for strand in range(5):
            self.assertEqual(round_way(CLOTH, [strand]), [strand])
            self.assertIsNone(lifted_off(CLOTH, [strand]))

    def test_two_ends_and_two_picks(self):
        for strands in ([0, 1], [1, 2], [3, 4], [0, 1, 2]):
            self.assert_lifts(CLOTH, strands)

    def test_ways_within_the_set_alone(self):
        # The whole hangs together, but without pick 3 no way leads back.
        cloth = ["#.", ".#"]
        self.assert_round(cloth, [0, 1, 2, 3])
        for strands in ([0, 1, 2], [0, 1, 3], [0, 2, 3], [1, 2, 3], [0, 2], [1, 2]):
            self.assert_lifts(cloth, strands)

    def test_all_sets_of_small_cloths(self):
        for cloth in small_cloths():
            every = strands_of(cloth)
            for count in range(1, len(every) + 1):
                for strands in itertools.combinations(every, count):
                    self.assert_either(cloth, list(strands))

    def test_some_sets_of_larger_cloths(self):
        source = random.Random("sets")
        for cloth in some_cloths(60, 9, "sets"):
            every = strands_of(cloth)
            for _ in range(6):
                self.assert_either(cloth, sorted(source.sample(every, source.randint(1, len(every)))))
            self.assert_either(cloth, every)
            for layer in layers_of(cloth):
                self.assert_round(cloth, layer)

    def test_large_sets_of_40_by_40(self):
        for cloth in (stairs(40), twill(39, 1), twill(20, 20), twill(1, 39)):
            self.assert_round(cloth, list(range(80)))
        self.assert_round(stairs(40), list(range(39)) + list(range(40, 79)))
        self.assert_lifts(["#" * 40] * 40, list(range(80)))
        # Twills of two and of thirty-eight strands, the small one above.
        cloth = ["#." + "." * 38, ".#" + "." * 38] + ["##" + text for text in twill(19, 19)]
        self.assert_lifts(cloth, list(range(80)))
        self.assert_round(cloth, list(range(2, 40)) + list(range(42, 80)))

    def assert_no_strand(self, cloth, strands):
        for asked in (round_way, lifted_off):
            with self.subTest(asked=asked.__name__, strands=strands):
                with self.assertRaises(NoStrand):
                    asked(cloth, strands)

    def test_lists_that_are_no_sets(self):
        for strands in ([], [0, 0], [4, 4], [1, 0], [0, 2, 1], [0, 1, 1], [0, 3, 3, 4], [4, 3, 2, 1, 0], [2, 2, 3]):
            self.assert_no_strand(CLOTH, strands)

    def test_numbers_that_are_no_strands(self):
        for wrong in WRONG:
            self.assert_no_strand(CLOTH, [wrong])
            self.assert_no_strand(CLOTH, [wrong, 3])
            self.assert_no_strand(CLOTH, [0, wrong])
            self.assert_no_strand(CLOTH, [0, wrong, 4])
            self.assert_no_strand(CLOTH, sorted([0, 1, 4, wrong]))
        self.assert_no_strand(CLOTH, [0, 1, 2, 3, 4, 5])

    def test_no_cloth_ahead_of_no_strand(self):
        for texts in NO_CLOTHS:
            for strands in ([0], [], [-1], [1, 0], [99]):
                for asked in (round_way, lifted_off):
                    with self.assertRaises(NoCloth):
                        asked(texts, strands)

    def test_the_askers_own(self):
        cloth, strands = ["#.", ".#"], [0, 1, 2, 3]
        told = round_way(cloth, strands)
        kept = list(told)
        told.append(9)
        told[0] = 9
        self.assertEqual(round_way(cloth, strands), kept)
        single = [2]
        self.assertIsNot(round_way(cloth, single), single)
        part = lifted_off(cloth, [0, 1, 2])
        kept = list(part)
        part.append(9)
        self.assertEqual(lifted_off(cloth, [0, 1, 2]), kept)
        self.assertEqual((cloth, strands, single), (["#.", ".#"], [0, 1, 2, 3], [2]))


if __name__ == "__main__":
    unittest.main()
