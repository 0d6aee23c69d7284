"""Points 52, 53 and 54: what hangs together, and the layers of a cloth; points 1, 3 and 5 of them."""

import unittest

from heddle.errors import NoCloth
from heddle.layers import layer_numbers, layers_of, tops_of
from samples import (NO_CLOTHS, all_cloths, crosses, hang_together, lies_over, small_cloths, some_cloths, stairs,
                     strands_of, twill)

# End 0 over all, pick 0 over all others, and so on down: no layer has two strands.
STEPS = ["#..",
         "##.",
         "###"]

# Two plain cloths, one over the other, by turns: ends 0 and 2, picks 0 and 2 are the upper one.
TWO_PLAIN = ["#...",
             "#.##",
             "..#.",
             "###."]


class LayersTest(unittest.TestCase):
    def assert_layers(self, cloth, layers):
        self.assertEqual(layers_of(cloth), layers)
        self.assert_as_told(cloth)

    def assert_as_told(self, cloth):
        """All that points 53 and 54 say, asked of what is told."""
        layers = layers_of(cloth)
        ends = len(cloth[0])
        self.assertEqual(sorted(strand for layer in layers for strand in layer), strands_of(cloth))
        for k, layer in enumerate(layers):
            self.assertEqual(layer, sorted(layer))
            self.assertTrue(hang_together(cloth, layer), (cloth, layer))
            for lower in layers[k + 1:]:
                for one in layer:
                    for other in lower:
                        if crosses(cloth, one, other):
                            self.assertTrue(lies_over(cloth, one, other), (cloth, one, other))
        for upper, lower in zip(layers, layers[1:]):
            if len(upper) == len(lower) == 1 and not crosses(cloth, upper[0], lower[0]):
                self.assertLess(upper, lower)
        numbers = layer_numbers(cloth)
        self.assertEqual(len(numbers), len(strands_of(cloth)))
        for strand, number in enumerate(numbers):
            self.assertIn(strand, layers[number])
        tops = tops_of(cloth)
        self.assertEqual(tops[0], (0, 0))
        self.assertEqual(tops[-1], (ends, len(cloth)))
        self.assertEqual(len(tops), len(layers) + 1)
        for k, layer in enumerate(layers):
            of_ends = len([strand for strand in layer if strand < ends])
            self.assertEqual(tops[k + 1], (tops[k][0] + of_ends, tops[k][1] + len(layer) - of_ends))


class TestLayers(LayersTest):
    def test_a_cloth_that_hangs_together(self):
        self.assert_layers(["#.", ".#"], [[0, 1, 2, 3]])
        self.assert_layers(["#.#", ".#."], [[0, 1, 2, 3, 4]])
        self.assert_layers(twill(2, 2), [list(range(8))])
        self.assertEqual(tops_of(["#.", ".#"]), [(0, 0), (2, 2)])
        self.assertEqual(layer_numbers(["#.", ".#"]), [0, 0, 0, 0])

    def test_ends_all_above_picks(self):
        self.assert_layers(["###", "###"], [[0], [1], [2], [3], [4]])
        self.assertEqual(tops_of(["###", "###"]), [(0, 0), (1, 0), (2, 0), (3, 0), (3, 1), (3, 2)])
        self.assertEqual(layer_numbers(["###", "###"]), [0, 1, 2, 3, 4])

    def test_picks_all_above_ends(self):
        self.assert_layers(["..", "..", ".."], [[2], [3], [4], [0], [1]])
        self.assertEqual(tops_of([".."] * 3), [(0, 0), (0, 1), (0, 2), (0, 3), (1, 3), (2, 3)])
        self.assertEqual(layer_numbers([".."] * 3), [3, 4, 0, 1, 2])

    def test_one_crossing(self):
        self.assert_layers(["#"], [[0], [1]])
        self.assert_layers(["."], [[1], [0]])

    def test_one_end_and_one_pick(self):
        self.assert_layers(["#", ".", "#", "."], [[2], [4], [0], [1], [3]])
        self.assert_layers(["#.#."], [[0], [2], [4], [1], [3]])

    def test_two_plain_cloths_one_over_the_other(self):
        self.assert_layers(TWO_PLAIN, [[0, 2, 4, 6], [1, 3, 5, 7]])
        self.assertEqual(tops_of(TWO_PLAIN), [(0, 0), (2, 2), (4, 4)])
        self.assertEqual(layer_numbers(TWO_PLAIN), [0, 1, 0, 1, 0, 1, 0, 1])

    def test_the_upper_cloth_by_the_higher_numbers(self):
        # The plain cloth of ends 2, 3 and picks 2, 3 lies over the one of ends 0, 1 and picks 0, 1.
        self.assert_layers(["#.##", ".###", "..#.", "...#"], [[2, 3, 6, 7], [0, 1, 4, 5]])

    def test_layers_of_one_strand_each_by_turns(self):
        self.assert_layers(STEPS, [[0], [3], [1], [4], [2], [5]])

    def test_layers_of_one_strand_between_others(self):
        # From the top: the first pick, a plain cloth, an end, a pick, and another plain cloth.
        self.assert_layers([".....",
                            "#....",
                            ".#...",
                            "###..",
                            "####.",
                            "###.#"], [[5], [0, 1, 6, 7], [2], [8], [3, 4, 9, 10]])

    def test_neighbouring_layers_of_one_end_each(self):
        # Ends 1, 3 and 4 over all; then pick 0; then ends 0 and 2; then pick 1.
        self.assert_layers([".#.##", "#####"], [[1], [3], [4], [5], [0], [2], [6]])

    def test_neighbouring_layers_of_one_pick_each(self):
        self.assert_layers(["##", "..", "#.", ".."], [[3], [5], [0], [4], [1], [2]])
        self.assert_layers(["##", "#.", "##", "..", "##"], [[5], [0], [3], [1], [2], [4], [6]])

    def test_a_long_line_of_stairs(self):
        for size in (2, 3, 5, 20, 40):
            self.assert_layers(stairs(size), [list(range(2 * size))])

    def test_all_small_cloths(self):
        for cloth in small_cloths() + all_cloths(4, 2) + all_cloths(2, 4):
            self.assert_as_told(cloth)

    def test_larger_cloths(self):
        for cloth in some_cloths(60, 9, "layers"):
            self.assert_as_told(cloth)

    def test_40_by_40_in_good_time(self):
        for k in range(200):
            layers_of(["#" * 40] * 40)
            tops_of(twill(20, 20))
            layer_numbers(["." * j + "#" * (40 - j) for j in range(40)])
        self.assert_as_told(twill(39, 1))
        self.assertEqual(layers_of(["#" * 40] * 40), [[strand] for strand in range(80)])
        self.assertEqual(layers_of(["." * 40] * 40), [[strand] for strand in list(range(40, 80)) + list(range(40))])
        steps = ["#" * (j + 1) + "." * (39 - j) for j in range(40)]
        self.assertEqual(layers_of(steps), [[strand] for k in range(40) for strand in (k, 40 + k)])


class TestTheAskersOwn(unittest.TestCase):
    def test_no_cloth(self):
        for asked in (layers_of, layer_numbers, tops_of):
            for texts in NO_CLOTHS:
                with self.assertRaises(NoCloth):
                    asked(texts)

    def test_changing_what_is_told_changes_nothing(self):
        cloth = list(TWO_PLAIN)
        for asked in (layers_of, layer_numbers, tops_of):
            kept = asked(cloth)
            told = asked(cloth)
            self.assertIs(type(told), list)
            if asked == layers_of:
                told[0].append(99)
                self.assertEqual(told[1], kept[1])
            told[0] = None
            told.append(5)
            self.assertEqual(asked(cloth), kept)
            self.assertEqual(cloth, TWO_PLAIN)
        self.assertTrue(all(type(pair) is tuple for pair in tops_of(cloth)))


if __name__ == "__main__":
    unittest.main()
