"""Point 105: books of patterns and drafts; points 1 and 5 of them."""

import unittest

from heddle.book import read_book
from heddle.errors import NoDraft, NoPattern, NoRow, TooLarge, Twice, Unknown, WeaveError
from samples import twill

PLAIN = ["#.", ".#"]


class BookTest(unittest.TestCase):
    def assert_reads(self, text, pairs):
        told = read_book(text)
        self.assertEqual(told, pairs, text)
        self.assertIs(type(told), list)
        self.assertTrue(all(type(pair) is tuple for pair in told))

    def assert_refused(self, refusal, *texts):
        for text in texts:
            with self.subTest(text=text[:100]):
                with self.assertRaises(refusal):
                    read_book(text)


class TestLines(BookTest):
    def test_patterns_and_drafts(self):
        self.assert_reads("plain = twill(1,1)", [("plain", PLAIN)])
        self.assert_reads("plain: 0-1 / 0, 1 / 0-1", [("plain", PLAIN)])
        self.assert_reads("a = rows(#)\nb: 0 /  / 0\nc = twill(2,2)",
                          [("a", ["#"]), ("b", ["."]), ("c", twill(2, 2))])
        self.assert_reads("weave: 0-3 / 0 2, 1 3 / 0-1 0-1", [("weave", ["#.#.", ".#.#"] * 2)])

    def test_no_lines(self):
        for text in ("", "\n", "\n\n\n", "   ", "  \n  ", ";", "; words", ";a = b\n  ; c\n"):
            self.assert_reads(text, [])

    def test_empty_lines_and_remarks(self):
        self.assert_reads("\n; a book\n\na = rows(#)\n   \n  ; more = words : here\n;\nb = a\n\n",
                          [("a", ["#"]), ("b", ["#"])])
        self.assert_reads(";a = rows(#)\na = rows(.)", [("a", ["."])])

    def test_a_remark_begins_its_line(self):
        self.assert_refused(NoPattern, "a = rows(#) ; one", "a ; = rows(#)")
        self.assert_refused(NoRow, "a: 0 / 0 / 0 ; one")

    def test_blanks_at_both_ends(self):
        self.assert_reads("   a   =   rows( # )   ", [("a", ["#"])])
        self.assert_reads("   a   :   0 / 0 / 0   ", [("a", ["#"])])
        self.assert_reads("xax = rows(#)", [("xax", ["#"])])
        self.assert_reads("a=rows(#)\nb:0 / 0 / 0\nc=  b  \nd  =c", [(name, ["#"]) for name in "abcd"])

    def test_blanks_left_out_may_take_a_draft_apart(self):
        # Without the blank at its end the last part is not parted any more.
        self.assert_refused(NoDraft, "a: 0 / 0 / ", "a:  / 0 / 0", "a: / x / y", "a:  / x / ")

    def test_the_first_sign_parts_a_line(self):
        self.assert_refused(NoPattern, "a = b = rows(#)", "a = rows(#) : b", "a = 0 / 0 / 0", "a == rows(#)",
                            "a = : rows(#)", "a=:0 / 0 / 0")
        self.assert_refused(NoDraft, "a : rows(#)", "a : b = rows(#)", "a := rows(#)", "a: 0 = 0 / 0",
                            "a :: 0 / 0")
        self.assert_refused(NoRow, "a: 0 / 0 / 0 = b", "a : = 0 / 0 / 0", "a: 0 / 0 : 1 / 0", "a :: 0 / 0 / 0")

    def test_names_of_earlier_lines(self):
        self.assert_reads("a = rows(#.)\nb = mirror(a)\nc = beside(b, a)\nd: 0 / 0 / 0\ne = tile(d,2,1)",
                          [("a", ["#."]), ("b", [".#"]), ("c", [".##."]), ("d", ["#"]), ("e", ["##"])])

    def test_names_of_later_lines(self):
        self.assert_refused(Unknown, "a = b\nb = rows(#)", "a = a", "a = mirror(a)", "b = rows(#)\na = c\nc = b")

    def test_lines_in_their_order(self):
        self.assert_reads("z = rows(#)\ny = z\na = y", [("z", ["#"]), ("y", ["#"]), ("a", ["#"])])

    def test_names_at_their_bounds(self):
        self.assert_reads("a" * 20 + "=rows(#)", [("a" * 20, ["#"])])
        self.assert_refused(NoPattern, "a" * 21 + "=rows(#)", "a" * 21 + ":0 / 0 / 0")


class TestRefusals(BookTest):
    def test_no_pattern(self):
        self.assert_refused(NoPattern, "a", "a rows(#)", "hello there", "?", "a = rows(#)\nb", "= rows(#)", "=", ":",
                            ": 0 / 0 / 0", "A = rows(#)", "a b = rows(#)", "a1 = rows(#)", "1 = rows(#)",
                            "twill = rows(#)", "lay: 0 / 0 / 0", "a = ", "a =", "a = rows()", "a = twill(0,1)",
                            "rows(#)", "a; = rows(#)", "? cloth a", "a, b = rows(#)")

    def test_twice(self):
        self.assert_refused(Twice, "a = rows(#)\na = rows(#)", "a = rows(#)\nb = a\na = b", "a: 0 / 0 / 0\na = a",
                            "a = rows(#)\na: 0 / 0 / 0", "a: 0 / 0 / 0\n\n;\n  a  : 0 / 0 / 0")

    def test_twice_ahead_of_what_it_would_be(self):
        self.assert_refused(Twice, "a = rows(#)\na = x", "a = rows(#)\na = rows(", "a = rows(#)\na =",
                            "a = rows(#)\na = twill(99,99)", "a = rows(#)\na: x", "a = rows(#)\na: x / 0 / 0")

    def test_no_name_ahead_of_all(self):
        self.assert_refused(NoPattern, "A = x", "rows = twill(99,99)", "a1: x / 0 / 0")

    def test_as_patterns_are_refused(self):
        self.assert_refused(Unknown, "a = x", "a = rows(#)\nb = beside(a,x)")
        self.assert_refused(TooLarge, "a = twill(99,99)", "a = twill(20,20)\nb = tile(a,2,1)")

    def test_as_drafts_are_refused(self):
        self.assert_refused(NoDraft, "a:", "a: 0", "a: 0 / 0", "a: 0 / 0 / 1", "a: 40 / 0 / 0", "a: 0/0/0",
                            "a: 0 / 0 / 0 / 0")
        self.assert_refused(NoRow, "a: x / 0 / 0", "a: 0 / 0 / 00", "a: 0  0 / 0 / 0")
        self.assert_refused(TooLarge, "a: 5*(0-99) / 0 / 0", "a: 0 / 0 / 99*(99*(0))")

    def test_the_first_line_with_a_fault_refuses(self):
        faults = {"x": NoPattern, "b = nobody": Unknown, "c = twill(99,99)": TooLarge, "d: 0": NoDraft,
                  "e: x / 0 / 0": NoRow, "a = rows(#)": Twice}
        for one, refusal in faults.items():
            for other in faults:
                if other != one:
                    self.assert_refused(refusal, f"a = rows(.)\n{one}\n{other}", f"a = rows(.)\n;\n{one}\nf=a\n{other}")

    def test_refusals_are_weave_errors(self):
        for text in ("x", "a = b", "a: 0"):
            with self.assertRaises(WeaveError):
                read_book(text)


class TestTheAskersOwn(BookTest):
    def test_no_two_lists_are_one(self):
        told = read_book("a = rows(#.)\nb = a\nc = tile(a,1,1)\nd = b")
        told[0][1].append("more")
        told[1][1][0] = "changed"
        self.assertEqual(told[2:], [("c", ["#."]), ("d", ["#."])])
        self.assertEqual(told[1], ("b", ["changed"]))
        told.clear()
        self.assertEqual(read_book("a = rows(#.)\nb = a"), [("a", ["#."]), ("b", ["#."])])


if __name__ == "__main__":
    unittest.main()
