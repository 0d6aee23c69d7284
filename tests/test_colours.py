"""Points 81, 82 and 85: pictures, colours, what cloths show, and the half cloth of a picture; 1, 3 and 5 of them."""

import itertools
import unittest

from heddle.colours import free_half, picture_of
from heddle.errors import NoCloth, NoColour
from samples import NO_CLOTHS, all_cloths, some_cloths
from test_half import finishings

CLOTH = ["##.",
         "#.#"]

NO_PICTURES = [[], ["a"] * 41, [""], ["", ""], ["a", ""], ["", "a"], ["a" * 41], ["ab", "a"], ["a", "ab"], ["ag"],
               ["a?"], ["aB"], ["a."], ["#"], ["ab", "a "], ["ab", "x" * 2], ["f" * 40] * 39 + ["f" * 39 + "g"],
               ["f" * 40, "f" * 41]]


def as_long(picture, sign):
    """A warp and a weft of one sign that are as long as the texts and the list."""
    return (sign * len(picture[0]) if picture else "", sign * len(picture))


class TestPictureOf(unittest.TestCase):
    def test_sign_by_sign(self):
        self.assertEqual(picture_of(CLOTH, "abc", "de"), ["abd", "aec"])
        self.assertEqual(picture_of(["#"], "a", "f"), ["a"])
        self.assertEqual(picture_of(["."], "a", "f"), ["f"])
        self.assertEqual(picture_of(CLOTH, "aaa", "aa"), ["aaa", "aaa"])
        for cloth in some_cloths(20, 40, "pictures"):
            warp = ("abcdef" * 7)[:len(cloth[0])]
            weft = ("fdbeca" * 7)[:len(cloth)]
            picture = picture_of(cloth, warp, weft)
            self.assertEqual([len(text) for text in picture], [len(text) for text in cloth])
            for pick, end in itertools.product(range(len(cloth)), range(len(cloth[0]))):
                self.assertEqual(picture[pick][end], warp[end] if cloth[pick][end] == "#" else weft[pick])

    def test_threads_that_do_not_fit(self):
        for warp in ("", "a", "ab", "abcd", "ab?", "?bc", "abg", "ab ", "abC", "a#c", "abz", "???", "abx"):
            with self.assertRaises(NoColour):
                picture_of(CLOTH, warp, "ab")
        for weft in ("", "a", "abc", "a?", "?a", "ag", "a ", "aB", "a.", "??"):
            with self.assertRaises(NoColour):
                picture_of(CLOTH, "abc", weft)

    def test_no_cloth_ahead_of_no_colour(self):
        for texts in NO_CLOTHS:
            for warp, weft in (("a", "a"), ("", ""), ("?", "a"), ("a", "g")):
                with self.assertRaises(NoCloth):
                    picture_of(texts, warp, weft)

    def test_the_askers_own(self):
        cloth = list(CLOTH)
        told = picture_of(cloth, "abc", "de")
        self.assertIs(type(told), list)
        told.append("more")
        self.assertEqual(picture_of(cloth, "abc", "de"), ["abd", "aec"])
        self.assertEqual(cloth, CLOTH)


class TestFreeHalf(unittest.TestCase):
    def test_sign_by_sign(self):
        self.assertEqual(free_half(["abd", "aec"], "abc", "de"), ["##.", "#.#"])
        self.assertEqual(free_half(["ab", "bb"], "ab", "bb"), ["#?", ".?"])
        self.assertEqual(free_half(["a"], "a", "a"), ["?"])
        self.assertEqual(free_half(["a"], "a", "b"), ["#"])
        self.assertEqual(free_half(["a"], "b", "a"), ["."])
        self.assertEqual(free_half(["f" * 40] * 40, "f" * 40, "f" * 40), ["?" * 40] * 40)

    def test_a_crossing_that_neither_thread_fits(self):
        for picture, warp, weft in ((["a"], "b", "c"), (["a"], "b", "b"), (["ab", "ac"], "ab", "ab"),
                                    (["fb", "ab"], "ab", "ba")):
            with self.assertRaises(NoColour):
                free_half(picture, warp, weft)

    def test_just_the_cloths_that_show_the_picture_finish_it(self):
        for cloth in all_cloths(2, 2) + all_cloths(3, 2):
            for warp, weft in (("ab", "ba"), ("aa", "ab"), ("ab", "cc"), ("aa", "aa"), ("fe", "ef")):
                threads = (warp + "b" * (len(cloth[0]) - 2), weft)
                picture = picture_of(cloth, *threads)
                shows = [other for other in all_cloths(len(cloth[0]), 2) if picture_of(other, *threads) == picture]
                self.assertEqual(sorted(finishings(free_half(picture, *threads))), sorted(shows))

    def test_no_picture(self):
        for picture in NO_PICTURES:
            for warp, weft in (("a", "a"), ("", ""), ("?", "z"), ("ab", "ab"), as_long(picture, "f"),
                               as_long(picture, "a")):
                with self.subTest(picture=picture[:3]):
                    with self.assertRaises(NoColour):
                        free_half(picture, warp, weft)

    def test_threads_that_do_not_fit(self):
        picture = ["abd", "aec"]
        for warp in ("", "ab", "abcc", "ab?", "?bc", "a c", "abg"):
            with self.assertRaises(NoColour):
                free_half(picture, warp, "de")
        for weft in ("", "d", "dee", "d?", "?e", "dE", "d#"):
            with self.assertRaises(NoColour):
                free_half(picture, "abc", weft)

    def test_the_askers_own(self):
        picture = ["ab", "bb"]
        told = free_half(picture, "ab", "bb")
        self.assertIs(type(told), list)
        told[0] = "changed"
        self.assertEqual(free_half(picture, "ab", "bb"), ["#?", ".?"])
        self.assertEqual(picture, ["ab", "bb"])


if __name__ == "__main__":
    unittest.main()
