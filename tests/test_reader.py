"""Points 101 to 104: patterns read, worked out and told; points 1 and 5 of them."""

import itertools
import math
import unittest

from heddle.blocks import filled_blocks
from heddle.cloth import back_of, quarter_of
from heddle.endless import tiled
from heddle.errors import NoPattern, TooLarge, Unknown
from heddle.laying import laid_together
from heddle.pieces import Piece
from heddle.reader import read_pattern
from samples import satin, twill

PLAIN = ["#.", ".#"]
A = ["##.",
     "#.."]
B = ["...",
     ".##"]
KNOWN = [("plain", PLAIN), ("a", A), ("b", B), ("one", ["#"]), ("large", ["#." * 20] * 40), ("row", ["#" * 40]),
         ("abcdefghijklmnopqrst", ["."])]

WORDS = "rows twill satin beside above mirror upend back quarter tile blocks lay".split()


class ReaderTest(unittest.TestCase):
    def assert_reads(self, text, cloth, told=None):
        """All that point 104 says of a piece."""
        piece = read_pattern(text, KNOWN)
        self.assertIsInstance(piece, Piece)
        self.assertEqual(piece.cloth(), cloth, text)
        self.assertEqual((piece.wide(), piece.high()), (len(cloth[0]), len(cloth)))
        for y, row in enumerate(cloth):
            for x, sign in enumerate(row):
                self.assertEqual(piece.sign(x, y), sign)
        self.assertEqual(piece.told(), text.replace(" ", "") if told is None else told)
        again = read_pattern(piece.told(), KNOWN)
        self.assertEqual((again.cloth(), again.told()), (cloth, piece.told()))

    def assert_refused(self, refusal, *texts):
        for text in texts:
            with self.subTest(text=text[:100]):
                with self.assertRaises(refusal):
                    read_pattern(text, KNOWN)


class TestWords(ReaderTest):
    def test_names(self):
        self.assert_reads("plain", PLAIN)
        self.assert_reads("a", A)
        self.assert_reads("large", ["#." * 20] * 40)
        self.assert_reads("abcdefghijklmnopqrst", ["."])

    def test_rows(self):
        self.assert_reads("rows(#)", ["#"])
        self.assert_reads("rows(.)", ["."])
        self.assert_reads("rows(##., #..)", A)
        self.assert_reads("rows(" + "#." * 20 + ")", ["#." * 20])
        self.assert_reads("rows(" + ",".join(["#", "."] * 20) + ")", ["#", "."] * 20)

    def test_twill(self):
        self.assert_reads("twill(1, 1)", PLAIN)
        self.assert_reads("twill(2,1)", ["##.", ".##", "#.#"])
        for over, under in ((2, 2), (1, 3), (3, 1), (1, 39), (39, 1), (20, 20)):
            self.assert_reads(f"twill({over},{under})", twill(over, under))

    def test_twill_numbers(self):
        self.assert_refused(NoPattern, "twill(0,1)", "twill(1,0)", "twill(0,0)", "twill(0,99)", "twill(99,0)")
        self.assert_refused(TooLarge, "twill(40,1)", "twill(1,40)", "twill(99,99)", "twill(21,20)")

    def test_satin(self):
        self.assert_reads("satin(5,2)", ["#....", "..#..", "....#", ".#...", "...#."])
        self.assert_reads("satin(2,1)", PLAIN)
        for size in range(2, 41):
            for step in range(1, size):
                if math.gcd(size, step) == 1:
                    self.assertEqual(read_pattern(f"satin({size},{step})", []).cloth(), satin(size, step))
                else:
                    self.assert_refused(NoPattern, f"satin({size},{step})")
        self.assert_reads("satin(40,39)", satin(40, 39))

    def test_satin_numbers(self):
        self.assert_refused(NoPattern, "satin(5,0)", "satin(5,5)", "satin(5,6)", "satin(0,0)", "satin(0,1)",
                            "satin(1,1)", "satin(1,0)", "satin(6,4)", "satin(9,3)", "satin(40,2)", "satin(40,40)",
                            "satin(40,99)", "satin(99,3)", "satin(42,7)", "satin(99,99)", "satin(98,0)")
        self.assert_refused(TooLarge, "satin(41,1)", "satin(41,40)", "satin(99,2)", "satin(99,98)", "satin(42,5)")

    def test_beside_and_above(self):
        self.assert_reads("beside(a, b)", ["##....", "#...##"])
        self.assert_reads("beside(a, rows(#, .))", ["##.#", "#..."])
        self.assert_reads("beside(rows(#, .), a)", ["###.", ".#.."])
        self.assert_reads("above(a, b)", A + B)
        self.assert_reads("above(a, rows(#.#))", A + ["#.#"])
        self.assert_reads("above(rows(#.#), a)", ["#.#"] + A)
        self.assert_refused(NoPattern, "beside(a,one)", "beside(one,a)", "above(a,one)", "above(one,a)",
                            "beside(large,one)", "above(large,one)")

    def test_beside_and_above_at_their_bounds(self):
        self.assert_reads("beside(twill(19,1),twill(10,10))", [x + y for x, y in zip(twill(19, 1), twill(10, 10))])
        self.assert_reads("above(twill(19,1),twill(10,10))", twill(19, 1) + twill(10, 10))
        self.assert_refused(TooLarge, "beside(row,one)", "beside(one,row)", "above(large,row)", "above(row,large)",
                            "beside(large,large)", "above(large,large)")

    def test_turned(self):
        self.assert_reads("mirror(a)", [".##", "..#"])
        self.assert_reads("upend(a)", ["#..", "##."])
        self.assert_reads("back(a)", back_of(A))
        self.assert_reads("quarter(a)", quarter_of(A))
        self.assert_reads("quarter(a)", ["..", ".#", "##"])
        self.assert_reads("back(a)", ["#..", "##."])
        self.assert_reads("quarter(quarter(a))", A)
        self.assert_reads("mirror(upend(large))", [".#" * 20] * 40)

    def test_tile(self):
        self.assert_reads("tile(a,2,3)", tiled(A, 2, 3))
        self.assert_reads("tile(a,1,1)", A)
        self.assert_reads("tile(one,40,40)", ["#" * 40] * 40)
        self.assert_reads("tile(a,13,20)", tiled(A, 13, 20))
        self.assert_refused(NoPattern, "tile(a,0,1)", "tile(a,1,0)", "tile(a,0,99)", "tile(large,99,0)")
        self.assert_refused(TooLarge, "tile(one,41,1)", "tile(one,1,41)", "tile(a,14,1)", "tile(a,1,21)",
                            "tile(large,2,1)", "tile(one,99,99)")

    def test_blocks(self):
        self.assert_reads("blocks(plain,a,b)", filled_blocks(PLAIN, A, B))
        self.assert_reads("blocks(plain,a,b)", ["##....", "#...##", "...##.", ".###.."])
        self.assert_reads("blocks(a,plain,twill(1,1))", filled_blocks(A, PLAIN, PLAIN))
        self.assert_reads("blocks(large,one,rows(.))", ["#." * 20] * 40)
        self.assert_refused(NoPattern, "blocks(a,one,plain)", "blocks(a,a,quarter(a))", "blocks(large,one,row)")
        self.assert_refused(TooLarge, "blocks(large,plain,plain)", "blocks(plain,large,large)", "blocks(row,a,b)",
                            "blocks(twill(20,1),plain,plain)")

    def test_lay(self):
        self.assert_reads("lay(plain,twill(1,1))", laid_together([PLAIN, PLAIN], [0, 1] * 2, [0, 1] * 2))
        self.assert_reads("lay(a,b)", ["#.#...", "#.#.#.", "#.....", "#.####"])
        self.assert_reads("lay(one,rows(.))", ["#.", "#."])
        self.assert_reads("lay(twill(10,10),twill(9,11))",
                          laid_together([twill(10, 10), twill(9, 11)], [0, 1] * 20, [0, 1] * 20))
        self.assert_refused(NoPattern, "lay(a,one)", "lay(a,quarter(a))", "lay(a,plain)", "lay(large,row)")
        self.assert_refused(TooLarge, "lay(large,large)", "lay(row,row)", "lay(twill(20,1),twill(20,1))",
                            "lay(quarter(row),quarter(row))", "lay(rows(" + "#" * 21 + "),rows(" + "." * 21 + "))",
                            "lay(quarter(rows(" + "#" * 21 + ")),quarter(rows(" + "." * 21 + ")))")
        self.assert_reads("lay(rows(" + "#" * 20 + "),rows(" + "." * 20 + "))", ["#." * 20] * 2)

    def test_within_one_another(self):
        self.assert_reads("beside(mirror(a),above(rows(#),rows(.)))", [".###", "..#."])
        self.assert_reads("tile(blocks(plain,lay(one,one),rows(##,##)),2,1)",
                          tiled(filled_blocks(PLAIN, ["#.", "##"], ["##", "##"]), 2, 1))
        self.assert_reads("quarter(back(upend(mirror(satin(5,2)))))",
                          quarter_of(back_of([text[::-1] for text in satin(5, 2)][::-1])))


class TestWriting(ReaderTest):
    def test_blanks_where_they_may_stand(self):
        self.assert_reads("  plain  ", PLAIN)
        self.assert_reads(" rows ( ##. , #.. ) ", A)
        self.assert_reads("twill   (  2   ,   1  )   ", twill(2, 1))
        self.assert_reads(" beside ( a , mirror ( b ) ) ", ["##....", "#..##."])
        self.assert_reads("tile( a ,1 , 2 )", A + A)
        self.assert_reads("blocks (plain ,a, b)", filled_blocks(PLAIN, A, B))

    def test_blanks_where_they_may_not(self):
        self.assert_refused(NoPattern, "pl ain", "tw ill(1,1)", "twill(1 2,3)", "twill(1,1 2)", "rows(# #)",
                            "rows(#. .#, #..#)", "a b", "mirror(a b)", "a a", "a x", "mirror(a x)", "rows(#x)",
                            "rows(# x,#)", "twill(1x,1)", "twill(1 x,1)", "twill(1,1)x", "twill(x1,1)", "twill x(1,1)",
                            "rows(#, x#)")

    def test_other_signs_and_words(self):
        self.assert_refused(NoPattern, "", " ", "   ", "A", "Plain", "plain!", "?", "a;", "a=b", "a:b", "1", "12", "#",
                            "##", ".", "(", ")", ",", "()", "(a)", "a,b", "[a]", "a1", "1a", "a_b", "a-b", "-1", "a/b",
                            "weave(a)", "twills(1,1)", "name()", "a()", "a(b)", "plain(1,1)", "Twill(1,1)",
                            "twill[1,1]", "twill{1,1}", "(1,1)", "twill(+1,1)", "twill(-1,1)", "twill(1.,1)", "~")

    def test_things_missing_or_too_many(self):
        self.assert_refused(NoPattern, "rows()", "rows( )", "rows(#,)", "rows(,#)", "rows(#,,#)", "rows(#", "rows#)",
                            "rows(#))", "rows", "twill", "twill()", "twill(1)", "twill(1,)", "twill(,1)",
                            "twill(1,1,1)", "twill(1,1", "twill 1,1)", "twill(1 1)", "twill(1,1))", "satin(5)",
                            "satin(5,2,1)", "satin()", "beside(a)", "beside(a,)", "beside(,a)", "beside(a,b,a)",
                            "beside()", "above(a)", "above(a,b,a)", "mirror()", "mirror(a,b)", "mirror(,)", "upend()",
                            "upend(a,b)", "back()", "back(a,a)", "quarter()", "quarter(a,a)", "tile(a)", "tile(a,1)",
                            "tile(a,1,1,1)", "tile()", "tile(1,1)", "blocks(a,b)", "blocks(plain,a,b,a)", "blocks(a)",
                            "lay(a)", "lay(a,b,a)", "lay()", "mirror(a", "mirror(mirror(a)", "mirror(a))", "mirror a",
                            "beside(a;b)", "a)", "(a", "mirror((a))", "twill(1,1)a", "twill(1,1) a", "twill(1,1)(1,1)",
                            "beside(a,b),", ",a")

    def test_things_of_another_kind(self):
        self.assert_refused(NoPattern, "rows(a)", "rows(1)", "rows(#,a)", "rows(#,1)", "rows(rows(#))", "rows(#a)",
                            "rows(#1)", "twill(a,1)", "twill(1,a)", "twill(#,1)", "twill(1,##)", "twill(twill(1,1),1)",
                            "satin(a,2)", "satin(5,b)", "satin(5,#)", "beside(1,a)", "beside(a,1)", "beside(#.,a)",
                            "beside(a,##)", "above(##,##)", "above(1,2)", "mirror(1)", "mirror(#)", "upend(.)",
                            "back(3)", "quarter(##)", "tile(1,a,1)", "tile(a,b,1)", "tile(a,1,b)", "tile(#,1,1)",
                            "tile(a,#,1)", "tile(a,1,.)", "blocks(1,a,b)", "blocks(plain,1,b)", "blocks(plain,a,#)",
                            "lay(1,1)", "lay(#,#)", "lay(a,#)")

    def test_numbers_not_written_as_told(self):
        for number in ("00", "07", "01", "100", "000", "099", "1000", "1" * 50, "-1", "+1", "1a", "x", "", "0x1"):
            self.assert_refused(NoPattern, f"twill({number},1)", f"twill(1,{number})", f"satin({number},2)",
                                f"satin(5,{number})", f"tile(a,{number},1)", f"tile(a,1,{number})")

    def test_numbers_of_two_figures(self):
        self.assert_reads("tile(one,10,12)", ["#" * 10] * 12)
        self.assert_reads("twill(10,9)", twill(10, 9))

    def test_names_of_20_letters_and_of_21(self):
        self.assert_reads("mirror(abcdefghijklmnopqrst)", ["."])
        self.assert_refused(NoPattern, "abcdefghijklmnopqrstu", "mirror(abcdefghijklmnopqrstu)", "a" * 21, "a" * 3000)
        self.assert_refused(Unknown, "a" * 20, "z" * 20)

    def test_the_words_are_no_names(self):
        for word in WORDS:
            self.assert_refused(NoPattern, word, f"mirror({word})", f"beside(a,{word})", f" {word} ")
            # Not even where they are known, and a letter more makes a name of each.
            with self.assertRaises(NoPattern):
                read_pattern(word, [(word, ["#"])])
            self.assertEqual(read_pattern(word + "x", [(word + "x", ["#."])]).cloth(), ["#."])
            self.assert_refused(Unknown, word + "s", word[:-1] + "z")

    def test_40_runs_and_41(self):
        self.assert_reads("rows(" + ",".join(["#."] * 40) + ")", ["#."] * 40)
        self.assert_refused(NoPattern, "rows(" + ",".join(["#."] * 41) + ")", "rows(" + ",".join(["#"] * 100) + ")",
                            "rows(" + ",".join(["#" * 41] * 41) + ")")
        # Not written as told, so this goes ahead of a name to its left.
        self.assert_refused(NoPattern, "beside(nobody,rows(" + ",".join(["#"] * 41) + "))")

    def test_runs_of_unlike_lengths(self):
        self.assert_refused(NoPattern, "rows(#,##)", "rows(##,#)", "rows(#,#,##)", "rows(" + "#" * 41 + ",#)")
        # They do not fit, so a name to their left goes ahead, and one to their right comes behind.
        self.assert_refused(Unknown, "beside(nobody,rows(#,##))")
        self.assert_refused(NoPattern, "beside(rows(#,##),nobody)")

    def test_runs_of_40_and_of_41(self):
        self.assert_reads("rows(" + "." * 40 + ")", ["." * 40])
        self.assert_refused(TooLarge, "rows(" + "." * 41 + ")", "rows(" + "#" * 3000 + ")")

    def test_twelve_deep_and_thirteen(self):
        self.assert_reads("mirror(" * 11 + "a" + ")" * 11, [".##", "..#"])
        self.assert_reads("upend(" * 11 + "twill(1,1)" + ")" * 11, PLAIN[::-1])
        self.assert_reads("back(" * 11 + "rows(#)" + ")" * 11, ["."])
        self.assert_refused(NoPattern, "mirror(" * 12 + "a" + ")" * 12, "upend(" * 12 + "twill(1,1)" + ")" * 12,
                            "back(" * 12 + "rows(#)" + ")" * 12, "mirror(" * 12 + "nobody" + ")" * 12,
                            "mirror(" * 500 + "a" + ")" * 500, "mirror(" * 500)
        self.assert_refused(Unknown, "mirror(" * 11 + "nobody" + ")" * 11)
        # Numbers are no patterns, and things beside one another are not deeper.
        self.assert_reads("tile(" * 11 + "one" + ",1,1)" * 11, ["#"])
        deep = "one"
        for _ in range(11):
            deep = f"above({deep},one)"
        self.assert_reads(deep, ["#"] * 12)
        self.assert_refused(NoPattern, f"above({deep},one)", f"above(one,{deep})")


class TestOrder(ReaderTest):
    def test_unknown_names(self):
        self.assert_refused(Unknown, "nobody", "x", "mirror(x)", "beside(a,x)", "beside(x,a)", "tile(x,1,1)",
                            "blocks(x,a,b)", "blocks(plain,x,b)", "blocks(plain,a,x)", "lay(a,x)")
        with self.assertRaises(Unknown):
            read_pattern("a", [])

    def test_faults_of_writing_go_ahead_of_unknown_names(self):
        self.assert_refused(NoPattern, "beside(x,", "beside(x,y))", "beside(x,1)", "beside(x,twill(1,00))", "x y",
                            "beside(x,twill)", "beside(twill(01,1),x)", "beside(x," + "mirror(" * 12 + "a" + ")" * 13)

    def test_faults_of_writing_go_ahead_of_too_large(self):
        self.assert_refused(NoPattern, "tile(large,2,2", "tile(large,2,2)!", "beside(tile(large,2,2),1)",
                            "beside(twill(99,99),rows())")

    def test_the_left_goes_ahead_of_the_right(self):
        self.assert_refused(Unknown, "beside(x,twill(0,1))", "beside(x,twill(99,1))", "above(x,satin(6,2))")
        self.assert_refused(NoPattern, "beside(twill(0,1),x)", "beside(twill(0,1),twill(99,1))",
                            "blocks(plain,twill(0,1),x)")
        self.assert_refused(TooLarge, "beside(twill(99,1),x)", "beside(twill(99,1),twill(0,1))",
                            "blocks(twill(99,1),x,twill(0,1))")

    def test_the_inside_goes_ahead_of_the_outside(self):
        self.assert_refused(Unknown, "tile(x,0,1)", "tile(x,99,99)", "mirror(beside(a,x))", "tile(mirror(x),0,0)")
        self.assert_refused(TooLarge, "tile(twill(99,1),0,1)", "beside(a,twill(99,1))", "lay(one,tile(large,2,1))")
        self.assert_refused(NoPattern, "tile(twill(0,1),99,99)", "tile(beside(a,one),99,1)")
        # The whole left thing goes ahead of the right one, however deep the fault lies in it.
        self.assert_refused(TooLarge, "beside(mirror(mirror(tile(large,2,1))),x)")
        self.assert_refused(Unknown, "beside(mirror(mirror(x)),tile(large,2,1))")

    def test_what_does_not_fit_goes_ahead_of_too_large(self):
        self.assert_refused(NoPattern, "beside(large,row)", "tile(large,0,99)", "blocks(large,row,a)",
                            "lay(large,row)", "satin(99,33)", "twill(99,0)", "rows(" + "#" * 41 + ",#)")


class TestTheAskersOwn(ReaderTest):
    def test_changing_a_told_cloth_changes_nothing(self):
        for text in ("a", "rows(##.,#..)", "mirror(a)", "twill(1,1)", "tile(a,1,1)", "beside(a,b)", "lay(a,b)",
                     "blocks(one,a,b)", "satin(5,2)", "above(a,b)", "upend(a)", "back(a)", "quarter(a)"):
            piece = read_pattern(text, KNOWN)
            told = piece.cloth()
            kept = list(told)
            told[0] = "changed"
            told.append("more")
            self.assertEqual(piece.cloth(), kept)
            self.assertEqual(piece.high(), len(kept))
            self.assertEqual(piece.sign(0, 0), kept[0][0])
            self.assertEqual(read_pattern(text, KNOWN).cloth(), kept)
        self.assertEqual(A, ["##.", "#.."])

    def test_changing_the_known_ones_behind_the_call_changes_nothing(self):
        for text in ("a", "mirror(a)", "beside(a,b)", "tile(a,1,1)", "lay(a,b)", "above(a,b)", "upend(a)"):
            cloth = list(A)
            known = [("a", cloth), ("b", list(B))]
            piece = read_pattern(text, known)
            kept = piece.cloth()
            cloth[0] = "###"
            cloth.append("...")
            known[0] = ("a", ["."])
            known.clear()
            self.assertEqual(piece.cloth(), kept)
            self.assertEqual((piece.high(), piece.told()), (len(kept), text))

    def test_what_is_handed_in_stays(self):
        known = [(name, list(cloth)) for name, cloth in KNOWN]
        for text in ("beside(a,b)", "x", "tile(large,2,2)", "rows(", "lay(a,b)"):
            try:
                read_pattern(text, known)
            except (NoPattern, Unknown, TooLarge):
                pass
            self.assertEqual(known, KNOWN)

    def test_pieces_of_one_class_and_of_others_are_all_pieces(self):
        for text in ("a", "rows(#)", "twill(1,1)", "satin(5,2)", "beside(a,b)", "above(a,b)", "mirror(a)", "upend(a)",
                     "back(a)", "quarter(a)", "tile(a,1,1)", "blocks(one,a,b)", "lay(a,b)"):
            piece = read_pattern(text, KNOWN)
            self.assertIsInstance(piece, Piece)
            self.assertIs(type(piece.wide()), int)
            self.assertIs(type(piece.high()), int)
            self.assertEqual(piece.told(), text)

    def test_the_names_known_in_whatever_order(self):
        for known in itertools.permutations([("a", ["#"]), ("aa", ["."]), ("b", ["##"])]):
            self.assertEqual(read_pattern("above(a,aa)", list(known)).cloth(), ["#", "."])


if __name__ == "__main__":
    unittest.main()
