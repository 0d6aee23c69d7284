"""Points 64 and 65: shuttles, seams, tubes and sheets; points 1, 3 and 5 of them."""

import random
import unittest

from heddle.errors import NoCloth, NoShuttle
from heddle.layers import layer_numbers
from heddle.laying import laid_together
from heddle.shuttles import seams_of, sheets_of, tubes_of
from samples import NO_CLOTHS, some_cloths

PLAIN = ["#.", ".#"]


def tied_layers(order):
    """A cloth of layers of two ends each that hang together; its picks belong to them in this order."""
    count = max(order) + 1
    ends = [number for number in range(count) for _ in range(2)]
    pieces = [[PLAIN[k % 2] for k in range(order.count(number))] for number in range(count)]
    return laid_together(pieces, ends, order)


class ShuttlesTest(unittest.TestCase):
    def assert_joins(self, order, shuttles, seams, tubes, sheets):
        cloth = tied_layers(order)
        self.assertEqual(layer_numbers(cloth)[len(cloth[0]):], order)
        kept = list(shuttles)
        self.assertEqual(seams_of(cloth, shuttles), seams)
        self.assertEqual(tubes_of(cloth, shuttles), tubes)
        self.assertEqual(sheets_of(cloth, shuttles), sheets)
        self.assertEqual(shuttles, kept)


class TestJoins(ShuttlesTest):
    def test_one_layer_has_no_seam(self):
        self.assert_joins([0, 0], [0, 0], [], [], [[0]])
        self.assert_joins([0, 0, 0], [7, 0, 7], [], [], [[0]])

    def test_one_shuttle_makes_a_tube(self):
        # Throws: upper to the right, lower back to the left, and so on; turns right, left, right.
        self.assert_joins([0, 1, 0, 1], [0, 0, 0, 0], [(0, 1, "left"), (0, 1, "right")], [(0, 1)], [[0, 1]])

    def test_one_shuttle_makes_one_seam_at_the_right(self):
        self.assert_joins([0, 1, 1, 0], [0, 0, 0, 0], [(0, 1, "right")], [], [[0, 1]])

    def test_one_shuttle_makes_one_seam_at_the_left(self):
        self.assert_joins([0, 0, 1, 1], [0, 0, 0, 0], [(0, 1, "left")], [], [[0, 1]])

    def test_the_lower_layer_first(self):
        self.assert_joins([1, 0, 0, 1], [3, 3, 3, 3], [(0, 1, "right")], [], [[0, 1]])
        self.assert_joins([1, 0, 1, 0], [7, 7, 7, 7], [(0, 1, "left"), (0, 1, "right")], [(0, 1)], [[0, 1]])

    def test_a_shuttle_for_each_layer_joins_nothing(self):
        self.assert_joins([0, 1, 0, 1], [0, 1, 0, 1], [], [], [[0], [1]])
        self.assert_joins([0, 1, 2, 2, 1, 0], [5, 0, 7, 7, 0, 5], [], [], [[0], [1], [2]])

    def test_each_shuttle_has_its_own_turns(self):
        # Shuttle 0 goes upper, lower; shuttle 1 lower, upper: both turn at the right, the first time.
        self.assert_joins([0, 1, 1, 0], [0, 1, 0, 1], [(0, 1, "right")], [], [[0, 1]])
        # Shuttle 1 turns in the upper layer first, and goes down at the left.
        self.assert_joins([0, 0, 1, 0, 0, 1, 1, 1], [0, 1, 0, 1, 0, 1, 0, 1],
                          [(0, 1, "left"), (0, 1, "right")], [(0, 1)], [[0, 1]])

    def test_seams_made_twice_are_told_once(self):
        self.assert_joins([0, 1, 1, 0, 0, 1], [0] * 6, [(0, 1, "right")], [], [[0, 1]])

    def test_the_order_of_seams(self):
        # The thread goes through layers 2, 1, 0, 2 and round once more.
        self.assert_joins([2, 1, 0, 2, 1, 0], [4] * 6,
                          [(0, 1, "left"), (0, 1, "right"), (0, 2, "right"), (1, 2, "left"), (1, 2, "right")],
                          [(0, 1), (1, 2)], [[0, 1, 2]])

    def test_sheets_through_other_layers(self):
        # 0 is joined with 3, 3 with 1; 2 with none.
        self.assert_joins([0, 3, 3, 1, 1, 2, 2, 0], [0, 0, 1, 1, 2, 3, 3, 4],
                          [(0, 3, "right"), (1, 3, "right")], [], [[0, 1, 3], [2]])
        # 1 and 2, 3 and 4, then 2 and 3.
        self.assert_joins([1, 2, 3, 4, 2, 3, 0, 0, 1, 4], [0, 0, 1, 1, 2, 2, 3, 3, 4, 5],
                          [(1, 2, "right"), (2, 3, "right"), (3, 4, "right")], [], [[0], [1, 2, 3, 4]])
        # Two sheets that lie one through the other.
        self.assert_joins([0, 2, 1, 3, 0, 1, 2, 3], [0, 0, 1, 1, 2, 3, 4, 5],
                          [(0, 2, "right"), (1, 3, "right")], [], [[0, 2], [1, 3]])

    def test_layers_of_ends_alone(self):
        # Each strand is a layer: ends 0 and 1, then the two picks.
        self.assertEqual(seams_of(["##", "##"], [0, 0]), [(2, 3, "right")])
        self.assertEqual(tubes_of(["##", "##"], [0, 0]), [])
        self.assertEqual(sheets_of(["##", "##"], [0, 0]), [[0], [1], [2, 3]])
        self.assertEqual(sheets_of(["..", ".."], [0, 1]), [[0], [1], [2], [3]])

    def test_all_that_is_told_fits_together(self):
        source = random.Random("shuttles")
        for cloth in some_cloths(60, 12, "shuttles"):
            shuttles = [source.randrange(source.choice((2, 8))) for _ in cloth]
            layers = layer_numbers(cloth)[len(cloth[0]):]
            made, last, sides = [], {}, {}
            for pick, shuttle in enumerate(shuttles):
                if shuttle in last and layers[last[shuttle]] != layers[pick]:
                    pair = sorted((layers[last[shuttle]], layers[pick]))
                    made.append((pair[0], pair[1], sides[shuttle]))
                last[shuttle] = pick
                sides[shuttle] = "left" if sides.get(shuttle) == "right" else "right"
            seams = sorted(set(made))
            self.assertEqual(seams_of(cloth, shuttles), seams)
            pairs = {(upper, lower) for upper, lower, _ in seams}
            self.assertEqual(tubes_of(cloth, shuttles), sorted(
                pair for pair in pairs if {pair + ("left",), pair + ("right",)} <= set(seams)))
            sheets = sheets_of(cloth, shuttles)
            self.assertEqual(sorted(sum(sheets, [])), list(range(max(layer_numbers(cloth)) + 1)))
            self.assertEqual(sheets, sorted(sorted(sheet) for sheet in sheets))
            for sheet in sheets:
                reached, grown = {sheet[0]}, True
                while grown:
                    more = {number for pair in pairs if reached & set(pair) for number in pair}
                    grown = not more <= reached
                    reached |= more
                self.assertEqual(reached, set(sheet))

    def test_40_picks(self):
        cloth = tied_layers([0, 1] * 20)
        self.assertEqual(tubes_of(cloth, [0] * 40), [(0, 1)])
        self.assertEqual(sheets_of(["#" * 40] * 40, [0] * 40), [[k] for k in range(40)] + [list(range(40, 80))])


class TestRefusals(ShuttlesTest):
    def test_lists_that_are_no_shuttles(self):
        cloth = tied_layers([0, 1, 0, 1])
        for asked in (seams_of, tubes_of, sheets_of):
            for shuttles in ([], [0], [0] * 3, [0] * 5, [0] * 41, [0, 0, 0, -1], [-1, 0, 0, 0], [0, 8, 0, 0],
                             [8, 8, 8, 8], [0, 0, 0, 10 ** 69], [0, -10 ** 69, 0, 0]):
                with self.assertRaises(NoShuttle):
                    asked(cloth, shuttles)
            asked(cloth, [0, 7, 7, 0])

    def test_no_cloth_ahead_of_no_shuttle(self):
        for asked in (seams_of, tubes_of, sheets_of):
            for texts in NO_CLOTHS:
                for shuttles in ([0] * len(texts), [], [-1], [8] * 99):
                    with self.assertRaises(NoCloth):
                        asked(texts, shuttles)


class TestTheAskersOwn(ShuttlesTest):
    def test_changing_what_is_told_changes_nothing(self):
        cloth, shuttles = tied_layers([0, 1, 0, 1]), [0, 0, 0, 0]
        kept = list(cloth)
        for asked in (seams_of, tubes_of, sheets_of):
            first = asked(cloth, shuttles)
            self.assertIs(type(first), list)
            told = asked(cloth, shuttles)
            told[0] = None
            told.append(1)
            self.assertEqual(asked(cloth, shuttles), first)
        sheets_of(cloth, shuttles)[0].append(9)
        self.assertEqual(sheets_of(cloth, shuttles), [[0, 1]])
        self.assertEqual((cloth, shuttles), (kept, [0, 0, 0, 0]))
        self.assertTrue(all(type(seam) is tuple for seam in seams_of(cloth, shuttles) + tubes_of(cloth, shuttles)))


if __name__ == "__main__":
    unittest.main()
