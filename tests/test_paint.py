"""Points 81, 83 and 84: the first colouring that fits a picture, and why none does; points 1 and 5 of them."""

import itertools
import random
import unittest

from heddle.colours import picture_of
from heddle.errors import NoColour
from heddle.paint import first_colouring
from samples import some_cloths
from test_colours import NO_PICTURES, as_long

COLOURS = "abcdef"


def fits(picture, warp, weft):
    return all(seen in (warp[end], weft[pick]) for pick, text in enumerate(picture) for end, seen in enumerate(text))


def colourings(picture, warp, weft):
    """All colourings that fit and have the told colours, in the order of point 83."""
    ends = len(picture[0])
    choices = [COLOURS if sign == "?" else sign for sign in warp + weft]
    for signs in itertools.product(*choices):
        threads = "".join(signs)
        if fits(picture, threads[:ends], threads[ends:]):
            yield (threads[:ends], threads[ends:])


class PaintTest(unittest.TestCase):
    def assert_none(self, picture, warp, weft):
        """All that point 84 says."""
        kept = list(picture)
        told = first_colouring(picture, warp, weft)
        self.assertIs(type(told), tuple)
        self.assertEqual((len(told), told[0]), (3, "none"))
        strand, chains = told[1:]
        threads = warp + weft
        self.assertIn(strand, range(len(threads)))
        self.assertIs(type(chains), list)
        may = COLOURS if threads[strand] == "?" else threads[strand]
        self.assertEqual("".join(colour for colour, chain in chains), may)
        for pair in chains:
            self.assertIs(type(pair), tuple)
            self.assert_chain(picture, threads, strand, *pair)
        self.assertEqual(picture, kept)

    def assert_chain(self, picture, threads, strand, colour, chain):
        ends = len(picture[0])
        self.assertIs(type(chain), list)
        self.assertTrue(2 <= len(chain) <= 6 * len(threads) + 1, chain)
        self.assertEqual(chain[0], strand)
        bears = colour
        for one, other in zip(chain, chain[1:]):
            self.assertNotEqual(one < ends, other < ends)
            self.assertIn(max(one, other), range(ends, len(threads)))
            self.assertIn(min(one, other), range(ends))
            seen = picture[max(one, other) - ends][min(one, other)]
            self.assertNotEqual(seen, bears, (picture, threads, chain))
            bears = seen
        last = chain[-1]
        back = last == strand and bears != colour
        barred = threads[last] != "?" and threads[last] != bears
        self.assertTrue(back or barred, (picture, threads, chain))

    def assert_first(self, picture, warp, weft):
        found = next(colourings(picture, warp, weft), None)
        if found is None:
            self.assert_none(picture, warp, weft)
        else:
            self.assertEqual(first_colouring(picture, warp, weft), ("threads",) + found)


class TestFits(PaintTest):
    def assert_threads(self, picture, warp, weft, found_warp, found_weft):
        kept = list(picture)
        self.assertEqual(first_colouring(picture, warp, weft), ("threads", found_warp, found_weft))
        self.assertTrue(fits(picture, found_warp, found_weft))
        self.assertEqual(picture, kept)

    def test_worked_out_by_hand(self):
        # The pick alone bears what is seen, so the end may bear the first letter, which is seen nowhere.
        self.assert_threads(["b"], "?", "?", "a", "b")
        self.assert_threads(["a"], "?", "?", "a", "a")
        # Both picks bear b then, so that the other end has to bear c.
        self.assert_threads(["bc", "bc"], "??", "??", "ac", "bb")
        self.assert_threads(["bb", "cc"], "??", "??", "aa", "bc")
        self.assert_threads(["bcd", "bcd"], "???", "??", "acd", "bb")
        self.assert_threads(["ab", "ba"], "??", "??", "aa", "bb")
        self.assert_threads(["abd", "aec"], "???", "??", "abc", "de")

    def test_told_colours(self):
        self.assert_threads(["b"], "b", "?", "b", "a")
        self.assert_threads(["b"], "c", "?", "c", "b")
        self.assert_threads(["b"], "?", "f", "b", "f")
        self.assert_threads(["b"], "f", "b", "f", "b")
        self.assert_threads(["ab", "ba"], "b?", "??", "bb", "aa")
        self.assert_threads(["abd", "aec"], "abc", "de", "abc", "de")

    def test_the_largest_of_one_kind(self):
        self.assert_threads(["f" * 40] * 40, "?" * 40, "?" * 40, "a" * 40, "f" * 40)
        self.assert_threads(["f" * 40] * 40, "?" * 40, "?" * 39 + "e", "f" * 40, "a" * 39 + "e")

    def test_colours_that_cloths_show_are_found(self):
        source = random.Random("threads")
        for cloth in some_cloths(60, 40, "threads"):
            warp = "".join(source.choices(COLOURS, k=len(cloth[0])))
            weft = "".join(source.choices(COLOURS, k=len(cloth)))
            picture = picture_of(cloth, warp, weft)
            self.assert_threads(picture, warp, weft, warp, weft)
            for share in (0.5, 1):
                told = ["".join("?" if source.random() < share else sign for sign in text) for text in (warp, weft)]
                word, found_warp, found_weft = first_colouring(picture, *told)
                self.assertEqual(word, "threads")
                self.assertTrue(fits(picture, found_warp, found_weft))
                self.assertLessEqual(found_warp + found_weft, warp + weft)
                for sign, found in zip(told[0] + told[1], found_warp + found_weft):
                    self.assertIn(sign, ("?", found))


class TestAllTried(PaintTest):
    def test_small_pictures(self):
        source = random.Random("small")
        for _ in range(300):
            ends, picks = source.choice(((1, 1), (1, 2), (2, 1), (2, 2), (1, 3), (3, 1)))
            colours = source.choice(("ab", "abc", "bcf", "def"))
            picture = ["".join(source.choices(colours, k=ends)) for _ in range(picks)]
            share = source.choice((0, 0.3, 0.7, 1))
            told = ["".join(source.choice(colours + "a") if source.random() < share else "?" for _ in range(count))
                    for count in (ends, picks)]
            self.assert_first(picture, *told)

    def test_three_by_three(self):
        source = random.Random("three")
        for _ in range(200):
            cloth = ["".join(source.choices("#.", k=3)) for _ in range(3)]
            colours = source.choice(("ab", "abc"))
            picture = picture_of(cloth, "".join(source.choices(colours, k=3)), "".join(source.choices(colours, k=3)))
            # One sign is changed, so that some of them fit and some don't.
            pick, end = source.randrange(3), source.randrange(3)
            picture[pick] = picture[pick][:end] + source.choice(colours) + picture[pick][end + 1:]
            told = "".join(source.choice("??" + colours) for _ in range(4)) + "??"
            self.assert_first(picture, told[:3], told[3:])


class TestNone(PaintTest):
    def test_a_told_colour_that_fits_nowhere(self):
        self.assert_none(["a"], "b", "c")
        self.assert_none(["a"], "f", "f")
        self.assert_none(["ab", "cd"], "fe", "??")
        self.assertEqual(first_colouring(["a"], "b", "c"), ("none", 0, [("b", [0, 1])]))

    def test_no_colour_told(self):
        # Each end sees three colours along its picks, and so does each pick.
        self.assert_none(["abc", "bca", "cab"], "???", "???")
        self.assert_none(["abcd", "badc", "cdab", "dcba"], "????", "????")

    def test_some_told(self):
        self.assert_none(["ab", "ba"], "c?", "??")
        self.assert_none(["ab", "ba"], "a?", "?c")
        self.assert_none(["ab", "bc"], "??", "ca")
        self.assert_none(["abc", "bca", "cab"], "a??", "??b")

    def test_a_chain_that_goes_far(self):
        # One sign of a picture that threads fit is changed to a colour that neither of them has.
        source = random.Random("far")
        none = 0
        for size in (5, 12, 20, 40):
            for _ in range(10):
                cloth = ["".join(source.choices("#.", k=size)) for _ in range(size)]
                warp = "".join(source.choices(COLOURS, k=size))
                weft = "".join(source.choices(COLOURS, k=size))
                picture = picture_of(cloth, warp, weft)
                pick, end = source.randrange(size), source.randrange(size)
                wrong = [colour for colour in COLOURS if colour not in (warp[end], weft[pick])]
                picture[pick] = picture[pick][:end] + wrong[0] + picture[pick][end + 1:]
                told = first_colouring(picture, "?" * size, "?" * size)
                if told[0] == "none":
                    none += 1
                    self.assert_none(picture, "?" * size, "?" * size)
                else:
                    self.assertTrue(fits(picture, told[1], told[2]))
        self.assertGreater(none, 10)

    def test_40_by_40(self):
        source = random.Random("forty")
        for _ in range(5):
            picture = ["".join(source.choices(COLOURS, k=40)) for _ in range(40)]
            self.assert_none(picture, "?" * 40, "?" * 40)
            self.assert_none(picture, "a" * 40, "?" * 40)
        # What the last strand can't bear is found last of all.
        self.assert_none(["a" * 40] * 39 + ["ab" * 20], "a" * 40, "a" * 39 + "f")


class TestRefusals(unittest.TestCase):
    def test_no_picture(self):
        for picture in NO_PICTURES:
            for warp, weft in (("?", "?"), ("a", "a"), ("", ""), ("??", "??"), ("z", "#"), as_long(picture, "?"),
                               as_long(picture, "f"), as_long(picture, "a")):
                with self.subTest(picture=picture[:3]):
                    with self.assertRaises(NoColour):
                        first_colouring(picture, warp, weft)

    def test_threads_that_do_not_fit(self):
        picture = ["abd", "aec"]
        for warp in ("", "??", "????", "ab", "abcc", "a c", "abg", "??z", "#??", "??A", "??x"):
            with self.assertRaises(NoColour):
                first_colouring(picture, warp, "??")
        for weft in ("", "?", "???", "dee", "?g", "g?", "?.", "? ", "?x"):
            with self.assertRaises(NoColour):
                first_colouring(picture, "???", weft)

    def test_the_askers_own(self):
        picture = ["a"]
        first, told = first_colouring(picture, "b", "c"), first_colouring(picture, "b", "c")
        told[2][0][1].append(9)
        told[2].append(9)
        self.assertEqual(first_colouring(picture, "b", "c"), first)
        self.assertEqual(picture, ["a"])


if __name__ == "__main__":
    unittest.main()
