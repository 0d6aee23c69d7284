"""Points 111 and 112: papers, their questions and answers; points 1 and 5 of them."""

import unittest

from heddle.book import read_book
from heddle.desk import answers_to
from heddle.drafts import woven
from heddle.endless import overs_within
from heddle.errors import NoDraft, NoPattern, NoRow, TooLarge, Twice, Unknown
from heddle.finish import finished_cloth
from heddle.half import is_cut
from heddle.layers import layers_of
from heddle.made import made_draft
from heddle.notes import read_draft
from samples import lies_over, twill

PLAIN = ["#.", ".#"]
BOOK = """; a small book
plain = twill(1,1)
broken = twill(2,2)
two = lay(plain, mirror(plain))
ends = rows(##, ##)
one: 0 / 0 / 0
"""
TWO = ["#...", "#.##", "..#.", "###."]


class DeskTest(unittest.TestCase):
    def ask(self, *questions):
        """The answers, which are the same ahead of the book's lines, behind them, and among them."""
        asked = "\n".join(questions)
        answers = answers_to(BOOK + asked)
        lines = BOOK.split("\n")
        for paper in (asked + "\n" + BOOK, "\n".join(lines[:3] + list(questions) + lines[3:])):
            self.assertEqual(answers_to(paper), answers)
        self.assertIs(type(answers), list)
        self.assertEqual(len(answers), len(questions))
        self.assertTrue(all(type(answer) is tuple for answer in answers))
        return answers

    def assert_answer(self, question, answer):
        self.assertEqual(self.ask(question), [answer], question)

    def assert_refused(self, name, *questions):
        for question in questions:
            self.assert_answer(question, ("refused", name))


class TestQuestions(DeskTest):
    def test_cloth(self):
        self.assert_answer("? cloth plain", ("cloth", PLAIN))
        self.assert_answer("? cloth two", ("cloth", TWO))
        self.assert_answer("? cloth one", ("cloth", ["#"]))

    def test_layers(self):
        word, layers, ways = self.ask("? layers two")[0]
        self.assertEqual((word, layers), ("layers", [[0, 2, 4, 6], [1, 3, 5, 7]]))
        self.assertEqual(len(ways), 2)
        for layer, way in zip(layers, ways):
            self.assertEqual((way[0], set(way)), (layer[0], set(layer)))
            for upper, lower in zip(way, way[1:] + way[:1]):
                self.assertTrue(lies_over(TWO, upper, lower))
        self.assert_answer("? layers ends", ("layers", [[0], [1], [2], [3]], [[0], [1], [2], [3]]))

    def test_draft(self):
        self.assert_answer("? draft plain", ("draft", "0-1 / 0, 1 / 0-1"))
        self.assert_answer("? draft ends", ("draft", "0 0 / 0 / 0 0"))
        word, text = self.ask("? draft broken")[0]
        self.assertEqual(woven(read_draft(text)), twill(2, 2))

    def test_shifts(self):
        self.assert_answer("? shifts plain", ("shifts", 2, 1, 1))
        self.assert_answer("? shifts broken", ("shifts", 4, 1, 1))
        self.assert_answer("? shifts ends", ("shifts", 1, 0, 1))
        self.assert_answer("? shifts two", ("shifts", 4, 2, 2))

    def test_floats(self):
        self.assert_answer("? floats plain", ("floats", [(0, 1), (0, 1), (0, 1), (0, 1)]))
        self.assert_answer("? floats ends", ("floats", [None] * 4))
        self.assert_answer("? floats one", ("floats", [None, None]))
        self.assert_answer("? floats broken", ("floats", [(1, 2), (0, 2), (1, 2), (0, 2),
                                                          (0, 2), (1, 2), (0, 2), (1, 2)]))

    def test_overs(self):
        self.assert_answer("? overs plain 0 0 2 2", ("overs", 2))
        self.assert_answer("? overs plain 0 0 0 0", ("overs", 0))
        self.assert_answer("? overs plain -1 0 3 1", ("overs", 1))
        self.assert_answer("? overs plain 0 -1 3 1", ("overs", 1))
        self.assert_answer("? overs ends -7 -9 5 11", ("overs", 55))
        large = "9" * 60
        self.assert_answer(f"? overs two -{large} {large} {large} {large}",
                           ("overs", overs_within(TWO, -int(large), int(large), int(large), int(large))))
        self.assert_answer("? overs ends 0 0 1" + "0" * 59 + " 10", ("overs", 10 ** 60))

    def test_sheets(self):
        seams = [(0, 1, "left"), (0, 1, "right")]
        self.assert_answer("? sheets two 0 0 0 0", ("sheets", seams, [(0, 1)], [[0, 1]]))
        self.assert_answer("? sheets two 2*(0 1)", ("sheets", [], [], [[0], [1]]))
        self.assert_answer("? sheets two 2*(0   1)", ("sheets", [], [], [[0], [1]]))
        self.assert_answer("? sheets two 4*(7)", ("sheets", seams, [(0, 1)], [[0, 1]]))
        self.assert_answer("? sheets two 0-1   0-1", ("sheets", [], [], [[0], [1]]))
        self.assert_answer("? sheets ends 3 3", ("sheets", [(2, 3, "right")], [], [[0], [1], [2, 3]]))

    def test_finish(self):
        for texts in (["??", "??"], ["#?", "#?"], ["#.", ".#"], ["?#?", ".?.", "?.?"]):
            self.assert_answer("? finish " + " ".join(texts), finished_cloth(texts))
        word, strands = self.ask("? finish #? #?")[0]
        self.assertEqual(word, "cut")
        self.assertTrue(is_cut(["#?", "#?"], strands))

    def test_paint(self):
        self.assert_answer("? paint ?? ?? ab ba", ("draft", "0-1 / 0, 1 / 0-1", "aa", "bb"))
        self.assert_answer("? paint aa aa aa aa", ("draft", "0-1 / 0, 1 / 0-1", "aa", "aa"))
        self.assert_answer("? paint ?? ?? bb bb", made_draft(["bb", "bb"], "??", "??"))
        self.assertEqual(self.ask("? paint ?? ?? bb bb")[0][:3], ("cut", "aa", "bb"))
        self.assert_answer("? paint ??? ??? abc bca cab", made_draft(["abc", "bca", "cab"], "???", "???"))
        self.assertEqual(self.ask("? paint fe ?? ab cd")[0][0], "none")

    def test_all_in_their_order(self):
        answers = self.ask("? cloth plain", "? shifts plain", "? cloth ends", "? bad", "? draft plain", "? cloth x",
                           "? sheets two 9 9 9 9", "? cloth plain")
        self.assertEqual(answers, [("cloth", PLAIN), ("shifts", 2, 1, 1), ("cloth", ["##", "##"]),
                                   ("refused", "NoPattern"), ("draft", "0-1 / 0, 1 / 0-1"), ("refused", "Unknown"),
                                   ("refused", "NoShuttle"), ("cloth", PLAIN)])


class TestWriting(DeskTest):
    def test_blanks(self):
        for question in ("?cloth plain", "   ?cloth plain", "?    cloth plain", "?cloth     plain", "? cloth plain   ",
                         "     ?     cloth     plain     "):
            self.assert_answer(question, ("cloth", PLAIN))
        self.assert_answer("?overs   plain  0   0 2    2", ("overs", 2))
        self.assert_answer("?finish   #.   .#", ("cloth", PLAIN, []))

    def test_other_words(self):
        self.assert_refused("NoPattern", "?", "?   ", "? ", "??", "? ?", "? nothing", "? Cloth plain", "? cloths plain",
                            "? plain", "? cloth? plain", "?? cloth plain", "? weave plain", "? rows plain",
                            "? clothplain", "? = plain", "? cloth=plain", "? a = rows(#)", "? ; cloth plain",
                            "? refused plain")

    def test_words_too_many_or_too_few(self):
        for word in ("cloth", "layers", "draft", "shifts", "floats"):
            self.assert_refused("NoPattern", f"? {word}", f"? {word} plain plain", f"? {word} plain 0",
                                f"? {word} x y", f"? {word} plain ends two")
        self.assert_refused("NoPattern", "? overs", "? overs plain", "? overs plain 0", "? overs plain 0 0 2",
                            "? overs plain 0 0 2 2 2", "? overs 0 0 2 2", "? overs x 0 0 2", "? sheets", "? paint",
                            "? paint ??", "? paint aa")

    def test_no_name_where_one_is_due(self):
        for name in ("Plain", "plain1", "1", "twill", "lay", "a" * 21, "#.", "twill(1,1)", "?", "-", "a_b", "plain,"):
            self.assert_refused("NoPattern", f"? cloth {name}", f"? layers {name}", f"? draft {name}",
                                f"? shifts {name}", f"? floats {name}", f"? overs {name} 0 0 1 1",
                                f"? sheets {name} 0 0", f"? sheets {name}")

    def test_numbers_not_written_as_told(self):
        for number in ("-0", "007", "00", "01", "-01", "1" * 61, "-" + "1" * 61, "0" * 60, "+1", "--1", "1-", "-", "x",
                       "1.0", "1,0", "#", "0x1", "1_0"):
            self.assert_refused("NoPattern", f"? overs plain {number} 0 1 1", f"? overs plain 0 {number} 1 1",
                                f"? overs plain 0 0 {number} 1", f"? overs plain 0 0 1 {number}")
        for number in ("-1", "-5", "-" + "9" * 60):
            self.assert_refused("NoPattern", f"? overs plain 0 0 {number} 1", f"? overs plain 0 0 1 {number}")
        self.assert_answer("? overs plain " + "1" * 60 + " -" + "1" * 60 + " 1 1", ("overs", 1))

    def test_a_name_that_the_book_does_not_have(self):
        for name in ("x", "nobody", "a" * 20, "plai", "plains", "finish", "cloth"):
            self.assert_refused("Unknown", f"? cloth {name}", f"? layers {name}", f"? draft {name}", f"? shifts {name}",
                                f"? floats {name}", f"? overs {name} 0 0 1 1", f"? sheets {name} 0", f"? sheets {name}")

    def test_no_pattern_ahead_of_unknown(self):
        self.assert_refused("NoPattern", "? cloth x y", "? overs x 0 0 1 -0", "? overs x 00 0 1 1", "? overs x 0 0 1",
                            "? overs x 0 0 -1 1", "? draft x 1")

    def test_unknown_ahead_of_what_is_asked(self):
        self.assert_refused("Unknown", "? sheets x 9", "? sheets x no row", "? sheets x 99*(99*(0))")


class TestRefused(DeskTest):
    def test_sheets(self):
        self.assert_refused("NoRow", "? sheets two x", "? sheets two 0 0 0 00", "? sheets two 0 0 0 -1",
                            "? sheets two 4*(0", "? sheets two 2*( 0 0 )", "? sheets two 0,0,0,0", "? sheets two 100",
                            "? sheets two no row 5*(0-99)")
        self.assert_refused("TooLarge", "? sheets two 5*(0-99)", "? sheets two 99*(99*(0))", "? sheets two 99*(5*(0))")
        self.assert_refused("NoShuttle", "? sheets two", "? sheets two 0", "? sheets two 0 0 0", "? sheets two 0-4",
                            "? sheets two 0 0 0 8", "? sheets two 4*(99)", "? sheets one", "? sheets two 4*(0-99)")

    def test_finish(self):
        self.assert_refused("NoCloth", "? finish", "? finish   ", "? finish #", "? finish ??", "? finish # .",
                            "? finish ?? ?", "? finish ?? ?a", "? finish plain", "? finish " + "? " * 41,
                            "? finish " + "?? " * 41)

    def test_paint(self):
        self.assert_refused("NoColour", "? paint ?? ??", "? paint a a", "? paint a a a", "? paint ?? ? ab",
                            "? paint ? ?? a b", "? paint ?? ?? ab", "? paint ?? ?? ab bg", "? paint ?g ?? ab ba",
                            "? paint ? ?? ab ba", "? paint ?? ??? ab ba", "? paint ?? ?? ab b")

    def test_the_rest_is_answered_all_the_same(self):
        answers = self.ask("? finish", "? cloth plain", "? paint", "? cloth x", "? shifts plain", "? sheets two x",
                           "?", "? draft one")
        self.assertEqual(answers, [("refused", "NoCloth"), ("cloth", PLAIN), ("refused", "NoPattern"),
                                   ("refused", "Unknown"), ("shifts", 2, 1, 1), ("refused", "NoRow"),
                                   ("refused", "NoPattern"), ("draft", "0 / 0 / 0")])


class TestPapers(DeskTest):
    def test_without_questions(self):
        for paper in ("", "\n", BOOK, "; ? cloth plain", "a = rows(#)", "   \n  ;?\n"):
            self.assertEqual(answers_to(paper), [])

    def test_without_a_book(self):
        self.assertEqual(answers_to("? cloth plain\n? finish #. .#\n?"),
                         [("refused", "Unknown"), ("cloth", PLAIN, []), ("refused", "NoPattern")])

    def test_a_name_wherever_its_line_stands(self):
        self.assertEqual(answers_to("? cloth b\na = rows(#)\n? cloth b\nb = a"), [("cloth", ["#"])] * 2)

    def test_a_faulty_line_refuses_the_whole_paper(self):
        for line, refusal in (("x", NoPattern), ("a = b", Unknown), ("plain = twill(1,1)", Twice), ("a: 0", NoDraft),
                              ("a: x / 0 / 0", NoRow), ("a = twill(99,1)", TooLarge), ("cloth ? plain", NoPattern),
                              ("a = ? cloth", NoPattern)):
            for paper in (f"{BOOK}{line}", f"? cloth plain\n{BOOK}{line}\n? cloth plain", f"{BOOK}? bad\n{line}"):
                with self.subTest(paper=paper):
                    with self.assertRaises(refusal):
                        answers_to(paper)

    def test_questions_are_no_lines_of_the_book(self):
        self.assertEqual(answers_to("a = rows(#)\n? a = rows(.)\n  ? a = rows(.)\n? cloth a"),
                         [("refused", "NoPattern")] * 2 + [("cloth", ["#"])])


class TestTheAskersOwn(DeskTest):
    def test_no_two_lists_are_one(self):
        paper = BOOK + "? cloth plain\n? cloth plain\n? layers ends\n? layers ends\n? floats plain\n? floats plain"
        answers = answers_to(paper)
        kept = answers_to(paper)
        for k in (0, 4):
            answers[k][1].append("more")
            self.assertEqual(answers[k + 1], kept[k + 1])
        answers[2][1][0].append(9)
        answers[2][2][1].append(9)
        answers[2][2].append(9)
        self.assertEqual(answers[3], kept[3])
        self.assertEqual(answers[2][1][1:], kept[2][1][1:])
        self.assertEqual(answers[2][2][0], kept[2][2][0])
        self.assertEqual(answers_to(paper), kept)
        self.assertEqual(read_book(BOOK)[0], ("plain", PLAIN))

    def test_layers_and_ways_are_apart(self):
        # Of a layer of one strand, the layer and the way round it are the same numbers, and two lists.
        word, layers, ways = answers_to("a = rows(#)\n? layers a")[0]
        layers[0].append(9)
        self.assertEqual(ways, [[0], [1]])

    def test_large_papers(self):
        paper = "a = tile(twill(5,5),4,4)\nb = satin(37,10)\n" + "? layers a\n? floats b\n? draft a\n? shifts b\n" * 5
        answers = answers_to(paper)
        self.assertEqual(len(answers), 20)
        self.assertEqual(answers[0][1], layers_of(read_book("a = tile(twill(5,5),4,4)")[0][1]))
        self.assertEqual(answers[3], ("shifts", 37, 10, 1))


if __name__ == "__main__":
    unittest.main()
