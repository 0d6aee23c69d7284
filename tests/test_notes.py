"""Point 26: drafts written as texts, and read from them."""

import unittest

from heddle.drafts import Draft, least_draft, woven
from heddle.errors import NoDraft, NoRow, TooLarge
from heddle.notes import read_draft, written_draft
from samples import small_cloths, some_cloths


def parts(draft):
    return (draft.threading, draft.ties, draft.treading)


class TestWritten(unittest.TestCase):
    def test_the_documents_example(self):
        draft = Draft([0, 1, 2, 3], [[0, 2], [1, 3]], [0, 1, 0, 1])
        self.assertEqual(written_draft(draft), "0-3 / 0 2, 1 3 / 0-1-0-1")

    def test_others(self):
        self.assertEqual(written_draft(Draft([0], [[0]], [0])), "0 / 0 / 0")
        self.assertEqual(written_draft(Draft([5, 5, 9], [[1, 2, 3, 9], [0]], [1, 1, 0])), "5 5 9 / 1-3 9, 0 / 1 1-0")

    def test_empty_ties(self):
        self.assertEqual(written_draft(Draft([0], [[]], [0])), "0 /  / 0")
        self.assertEqual(written_draft(Draft([0], [[], []], [1])), "0 / ,  / 1")
        self.assertEqual(written_draft(Draft([0], [[], [3], [], []], [3])), "0 / , 3, ,  / 3")

    def test_writing_changes_nothing(self):
        draft = Draft([0, 1], [[0], [1]], [1, 0])
        written_draft(draft)
        self.assertEqual(parts(draft), ([0, 1], [[0], [1]], [1, 0]))


class TestRead(unittest.TestCase):
    def assert_reads(self, text, threading, ties, treading):
        draft = read_draft(text)
        self.assertIsInstance(draft, Draft)
        self.assertEqual(parts(draft), (threading, ties, treading), text)

    def assert_refused(self, text, refusal):
        with self.subTest(text=text[:60]):
            with self.assertRaises(refusal):
                read_draft(text)

    def test_the_documents_example(self):
        text = "0-3 / 0 2, 1 3 / 0-1 0-1"
        self.assert_reads(text, [0, 1, 2, 3], [[0, 2], [1, 3]], [0, 1, 0, 1])
        self.assertEqual(woven(read_draft(text)), ["#.#.", ".#.#", "#.#.", ".#.#"])

    def test_empty_ties(self):
        self.assert_reads("0 /  / 0", [0], [[]], [0])
        self.assert_reads("0 / ,  / 1", [0], [[], []], [1])
        self.assert_reads("0 / , 3, ,  / 3", [0], [[], [3], [], []], [3])
        self.assert_reads("0 / 1,  / 0-1", [0], [[1], []], [0, 1])
        self.assert_reads("0 / , 1 / 0-1", [0], [[], [1]], [0, 1])

    def test_rows_with_times(self):
        self.assert_reads("2*(0-1) / 1*(0) 2, 1*(1*(1-3)) / 3*(0-1) 2*(1)", [0, 1, 0, 1], [[0, 2], [1, 2, 3]],
                          [0, 1, 0, 1, 0, 1, 1, 1])
        self.assert_reads("40*(39) / 0-39 / 40*(0)", [39] * 40, [list(range(40))], [0] * 40)
        self.assert_reads("2-2 / 0-0-2 / 0-0", [2], [[0, 1, 2]], [0])

    def test_written_and_read_again_is_the_same(self):
        for cloth in small_cloths() + some_cloths(60, 40, "notes"):
            draft = least_draft(cloth)
            self.assertEqual(parts(read_draft(written_draft(draft))), parts(draft))
        for draft in (Draft([39, 0, 0], [[], [0, 39], []], [1, 1, 0]), Draft([0] * 40, [[]] * 40, [39] * 40),
                      Draft([7], [[1, 2, 3, 5, 6, 9]], [0])):
            self.assertEqual(parts(read_draft(written_draft(draft))), parts(draft))

    def test_two_parts_and_four(self):
        for text in ("", " ", "0", "0 / 0", " / ", "0 / 0 / 0 / 0", " /  /  / ", "0 / 0, 1 / 0 / ", " / 0 / 0 / 0"):
            self.assert_refused(text, NoDraft)

    def test_slashes_without_their_blanks(self):
        for text in ("0/0/0", "0 /0/ 0", "0/ 0 /0", "0 / 0 /0", "0 / 0/ 0", "0/0 / 0"):
            self.assert_refused(text, NoDraft)

    def test_no_sign_is_taken_twice(self):
        self.assert_refused("0 / / 0", NoDraft)
        self.assert_refused(" / / ", NoDraft)
        # Parted from the left, the middle part is "/".
        self.assert_refused("0 / / / 0", NoRow)
        self.assert_refused("0 / 0 / / 0", NoRow)

    def test_the_count_of_parts_goes_ahead_of_rows(self):
        for text in ("x / y", "x", "100 / x / y / z", "500*(0)", "9*(99*(0)) / 0", "0/x/0"):
            self.assert_refused(text, NoDraft)

    def test_rows_that_are_none(self):
        for row in ("x", "01", "100", "0--1", " 0", "0 ", "0  1", "0,1", "2*()", "0*(1)", "/", "-1"):
            self.assert_refused(row + " / 0 / 0", NoRow)
            self.assert_refused("0 / " + row + " / 0", NoRow)
            self.assert_refused("0 / 0, " + row + ", 0 / 0", NoRow)
            self.assert_refused("0 / 0 / " + row, NoRow)

    def test_ties_without_their_blanks(self):
        for text in ("0 / 0,1 / 0", "0 / , / 0", "0 / 0 ,1 / 0", "0 / 0 , 1 / 0", "0 / 0,  1 / 0", "0 / 0, / 0"):
            self.assert_refused(text, NoRow)

    def test_rows_that_are_too_large(self):
        for row in ("5*(0-99)", "99*(99*(0))", "4*(0-99) 1"):
            self.assert_refused(row + " / 0 / 0", TooLarge)
            self.assert_refused("0 / " + row + " / 0", TooLarge)
            self.assert_refused("0 / 0, 1, " + row + " / 0", TooLarge)
            self.assert_refused("0 / 0 / " + row, TooLarge)

    def test_the_first_row_from_the_left_is_told(self):
        bad, large = "x", "5*(0-99)"
        for left, right in ((bad, large), (large, bad)):
            refusal = NoRow if left == bad else TooLarge
            for text in (f"{left} / {right} / 0", f"{left} / 0 / {right}", f"0 / {left} / {right}",
                         f"0 / {left}, {right} / 0", f"0 / 1, {left}, {right} / 0", f"{left} / 1, {right} / 0",
                         f"0 / 1, {left} / {right}"):
                self.assert_refused(text, refusal)

    def test_rows_go_ahead_of_lists_that_do_not_fit(self):
        for text in ("40 / 0 / x", "0 / 1 0 / x", "0 / 40, x / 0", "x / 40 / 9", " / x / 0", " / 0 / x",
                     "41*(0) / 0 / x", "0 / 0 0 / 0 "):
            self.assert_refused(text, NoRow)
        for text in ("40 / 0 / 5*(0-99)", "5*(0-99) / 1 0 / 0", "0 / 1-0, 5*(0-99) / 7", " / 0 / 99*(99*(0))"):
            self.assert_refused(text, TooLarge)

    def test_lists_that_do_not_fit(self):
        for text in ("40 / 0 / 0", "0 / 40 / 0", "0 / 1 0 / 0", "0 / 1-0 / 0", "0 / 0 0 / 0", "0 / 0 / 1",
                     "0 / 0, 1 / 2", " / 0 / 0", "0 / 0 / ", " /  / ", "41*(0) / 0 / 0", "0 / 0 / 41*(0)",
                     "0 / " + ", ".join(["0"] * 41) + " / 0", "0 / 0-2-1 / 0", "99 / 99 / 99"):
            self.assert_refused(text, NoDraft)


if __name__ == "__main__":
    unittest.main()
