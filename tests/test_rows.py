"""Points 11 to 15: rows, paths, times, their sizes, and how rows are shown; points 1 and 5 of them."""

import itertools
import re
import unittest

from heddle.errors import NoRow, TooLarge, WeaveError
from heddle.rows import shown, size_of, unfolded


def nested(depth, inner):
    """A text with so many times within one another, each of 1."""
    return "1*(" * depth + inner + ")" * depth


def regex_of_rows(depth):
    """The grammar of points 11 to 13, told a second way, with times up to so many deep."""
    number = "(?:[1-9][0-9]|[0-9])"
    path = f"{number}(?:-{number})*"
    item = path
    for _ in range(depth):
        item = rf"(?:(?:[1-9][0-9]|[1-9])\*\({item}(?: {item})*\)|{path})"
    return re.compile(f"(?:{item}(?: {item})*)?")


class RowsTest(unittest.TestCase):
    def assert_writes(self, text, row):
        self.assertEqual(unfolded(text), row, text)
        self.assertEqual(size_of(text), len(row), text)

    def assert_no_row(self, text):
        for asked in (unfolded, size_of):
            with self.subTest(asked=asked.__name__, text=text[:60]):
                with self.assertRaises(NoRow):
                    asked(text)


class TestRowsAndPaths(RowsTest):
    def test_the_empty_text_writes_the_empty_row(self):
        self.assert_writes("", [])

    def test_single_numbers(self):
        for number in range(100):
            self.assert_writes(str(number), [number])

    def test_items_with_one_blank_between(self):
        self.assert_writes("0 99", [0, 99])
        self.assert_writes("3 1 4 1 5", [3, 1, 4, 1, 5])
        self.assert_writes("7 7 7", [7, 7, 7])
        self.assert_writes("10 0-2 99", [10, 0, 1, 2, 99])

    def test_the_examples_of_the_document(self):
        self.assert_writes("0-3-1", [0, 1, 2, 3, 2, 1])
        self.assert_writes("2-2", [2])

    def test_paths(self):
        self.assert_writes("0-1", [0, 1])
        self.assert_writes("1-0", [1, 0])
        self.assert_writes("8-11", [8, 9, 10, 11])
        self.assert_writes("11-8", [11, 10, 9, 8])
        self.assert_writes("0-1-2-3", [0, 1, 2, 3])
        self.assert_writes("5-3-5", [5, 4, 3, 4, 5])
        self.assert_writes("0-99", list(range(100)))
        self.assert_writes("99-0", list(range(99, -1, -1)))

    def test_a_stop_that_is_equal_to_the_one_before_writes_nothing_more(self):
        self.assert_writes("0-0", [0])
        self.assert_writes("2-2-2-2", [2])
        self.assert_writes("1-3-3-2", [1, 2, 3, 2])
        self.assert_writes("4-4-6-6", [4, 5, 6])
        self.assert_writes("2 2-2 2", [2, 2, 2])

    def test_paths_that_come_next_to_one_another_stay_apart(self):
        self.assert_writes("0-2 2-0", [0, 1, 2, 2, 1, 0])

    def test_numbers_that_are_not_written_as_told(self):
        for text in ("00", "01", "007", "100", "999", "0100", "1 00", "00 1", "1-01", "01-1", "0-100", "a", "1a",
                     "+1", "1.0", "0x1"):
            self.assert_no_row(text)

    def test_paths_that_are_not_written_as_told(self):
        for text in ("-", "-1", "1-", "1--2", "1-2-", "-1-2", "1- 2", "1 -2", "1 - 2", "0 -1", "1- "):
            self.assert_no_row(text)

    def test_blanks_where_none_may_stand(self):
        for text in (" ", "  ", " 1", "1 ", "1  2", " 0-3", "0-3 ", "0-3  1", "1 2 ", "1\t2", "1\n2", "1\n"):
            self.assert_no_row(text)

    def test_other_signs(self):
        for text in ("1,2", "1/2", "(1)", "(", ")", "*", "1)", "1(", "1*", "*(1)", "x", "1 x", "#", "?"):
            self.assert_no_row(text)


class TestTimes(RowsTest):
    def test_so_many_times_over(self):
        self.assert_writes("1*(5)", [5])
        self.assert_writes("2*(0 1)", [0, 1, 0, 1])
        self.assert_writes("3*(0-2)", [0, 1, 2] * 3)
        self.assert_writes("10*(7)", [7] * 10)
        self.assert_writes("99*(0 4 2-3)", [0, 4, 2, 3] * 99)

    def test_beside_other_items(self):
        self.assert_writes("9 2*(0 1) 8", [9, 0, 1, 0, 1, 8])
        self.assert_writes("2*(1) 2*(2)", [1, 1, 2, 2])
        self.assert_writes("2*(3 3)", [3, 3, 3, 3])

    def test_within_one_another(self):
        self.assert_writes("2*(0 3*(1 2))", [0, 1, 2, 1, 2, 1, 2] * 2)
        self.assert_writes("2*(2*(1) 5 2*(2))", [1, 1, 5, 2, 2] * 2)
        self.assert_writes("2*(2*(2*(4)))", [4] * 8)

    def test_eight_deep_is_taken_and_nine_deep_refused(self):
        self.assert_writes(nested(8, "3"), [3])
        self.assert_writes(nested(8, "0-2 1"), [0, 1, 2, 1])
        self.assert_no_row(nested(9, "3"))
        self.assert_no_row(nested(500, "3"))

    def test_what_stands_side_by_side_does_not_count_as_deep(self):
        self.assert_writes(" ".join(["1*(4)"] * 20), [4] * 20)
        self.assert_writes(" ".join([nested(8, "4")] * 3), [4] * 3)
        self.assert_writes(nested(7, "1*(4) 1*(5)"), [4, 5])
        self.assert_no_row(nested(8, "4") + " " + nested(9, "4"))
        self.assert_no_row(nested(8, "4 1*(5)"))

    def test_counts_that_are_not_written_as_told(self):
        for text in ("0*(1)", "00*(1)", "01*(1)", "100*(1)", "-1*(1)", "a*(1)", "*(1)", "2*(0*(1))", "1 0*(1)"):
            self.assert_no_row(text)

    def test_a_times_without_items_or_without_its_end(self):
        for text in ("1*()", "2*(", "2*(1", "2*(1 2", "2*(2*(1)", "2*(1 2*())", "2*(1 ", "2*", "2*1", "2*1)",
                     "2*(1))", "2*[1]"):
            self.assert_no_row(text)

    def test_blanks_in_a_times_where_none_stands(self):
        for text in ("2*( 1)", "2*(1 )", "2*( )", "2* (1)", "2 *(1)", "2*(1  2)", "2*( 1 )", " 2*(1)", "2*(1) ",
                     "2*(1)  2*(1)", "2*(3*( 1))"):
            self.assert_no_row(text)

    def test_a_times_is_no_part_of_a_path(self):
        for text in ("1-2*(3)", "2*(3)-1", "2*(1)3", "2*(1)2*(1)", "2*3*(1)", "2*(1-)", "2*(-1)"):
            self.assert_no_row(text)

    def test_all_short_texts_are_taken_just_where_the_grammar_has_them(self):
        grammar = regex_of_rows(2)
        for length in range(6):
            for signs in itertools.product("012 -*()", repeat=length):
                text = "".join(signs)
                try:
                    taken = len(unfolded(text)) == size_of(text)
                except NoRow:
                    taken = False
                self.assertEqual(taken, grammar.fullmatch(text) is not None, text)


class TestSizes(RowsTest):
    def test_just_399_400_and_401(self):
        for text, size in (("3*(0-99) 0-98", 399), ("4*(0-99)", 400), ("2*(2*(0-99))", 400), ("20*(0-19)", 400)):
            self.assertEqual(size_of(text), size)
            self.assertEqual(len(unfolded(text)), size)
        for text in ("4*(0-99) 0", "0 4*(0-99)", "0-99-0-99-0 0 0 0 0", "41*(0-9)", "99*(0-4)"):
            self.assertGreater(size_of(text), 400)
            with self.assertRaises(TooLarge):
                unfolded(text)
        self.assertEqual(size_of("4*(0-99) 0"), 401)

    def test_sizes_without_any_times(self):
        self.assertEqual(unfolded(" ".join(["5"] * 400)), [5] * 400)
        self.assertEqual(size_of(" ".join(["5"] * 401)), 401)
        with self.assertRaises(TooLarge):
            unfolded(" ".join(["5"] * 401))
        path = "-".join(["0", "99", "0", "99", "0"])
        self.assertEqual(size_of(path), 397)
        self.assert_writes(path + "-3", unfolded(path) + [1, 2, 3])
        self.assertEqual(size_of(path + "-4"), 401)
        with self.assertRaises(TooLarge):
            unfolded(path + "-4")

    def test_a_size_far_too_large_to_unfold(self):
        text = "99*(" * 8 + "0-99" + ")" * 8
        self.assertEqual(size_of(text), 99 ** 8 * 100)
        with self.assertRaises(TooLarge):
            unfolded(text)
        self.assertEqual(size_of("99*(99*(99*(99*(5 6)) 7)) 8"), ((99 * 99 * 2 + 1) * 99 * 99) + 1)

    def test_a_long_text(self):
        text = "99*(" * 8 + "0" + " 0" * 1900 + ")" * 8
        self.assertEqual(size_of(text), 99 ** 8 * 1901)

    def test_a_text_that_is_not_as_told_is_no_row_whatever_its_size(self):
        far = "99*(" * 8 + "0-99" + ")" * 8
        for text in (far + " ", " " + far, far + " 00", far + ")", "0- " + far, far + " 0*(1)", far + " 100",
                     "99*(" * 9 + "0" + ")" * 9, "4*(0-99) 0 ", " ".join(["5"] * 401) + " x"):
            self.assert_no_row(text)

    def test_too_large_is_a_refusal_of_its_own(self):
        try:
            unfolded("5*(0-99)")
        except WeaveError as e:
            self.assertEqual(e.called(), "TooLarge")
        else:
            self.fail("not refused")


class TestShown(RowsTest):
    def assert_shown(self, row, text):
        kept = list(row)
        self.assertEqual(shown(row), text)
        self.assertEqual(row, kept)
        self.assertEqual(unfolded(text), row)

    def test_the_example_of_the_document(self):
        self.assert_shown([0, 1, 2, 3, 2, 1, 4, 4], "0-3-1 4 4")

    def test_the_empty_row(self):
        self.assert_shown([], "")

    def test_single_numbers(self):
        for number in range(100):
            self.assert_shown([number], str(number))

    def test_the_same_number_twice_over(self):
        self.assert_shown([4, 4], "4 4")
        self.assert_shown([0, 0, 0], "0 0 0")
        self.assert_shown([1, 2, 2, 1], "1-2 2-1")
        self.assert_shown([1, 2, 2, 3], "1-2 2-3")

    def test_rising_and_falling(self):
        self.assert_shown([0, 1], "0-1")
        self.assert_shown([1, 0], "1-0")
        self.assert_shown(list(range(100)), "0-99")
        self.assert_shown(list(range(99, -1, -1)), "99-0")
        self.assert_shown([8, 9, 10, 11, 10, 9], "8-11-9")

    def test_rows_that_turn_at_every_place(self):
        self.assert_shown([0, 1, 0], "0-1-0")
        self.assert_shown([5, 4, 5, 4, 5], "5-4-5-4-5")
        self.assert_shown([0, 1] * 200, "-".join(["0", "1"] * 200))

    def test_numbers_that_are_two_apart_or_more(self):
        self.assert_shown([0, 2, 4], "0 2 4")
        self.assert_shown([4, 2, 0], "4 2 0")
        self.assert_shown([0, 99, 0], "0 99 0")
        self.assert_shown([0, 1, 3, 4, 2, 1], "0-1 3-4 2-1")

    def test_what_is_written_unfolds_to_the_row_again(self):
        for length in range(7):
            for numbers in itertools.product((0, 1, 2, 4), repeat=length):
                row = list(numbers)
                text = shown(row)
                self.assertEqual(unfolded(text), row)
                self.assertNotIn("*", text)

    def test_a_row_of_400_numbers(self):
        self.assert_shown([k * 37 % 100 for k in range(400)], " ".join([str(k * 37 % 100) for k in range(400)]))
        self.assert_shown(list(range(100)) * 4, "0-99 0-99 0-99 0-99")

    def test_no_writing_by_paths_alone_has_fewer_items_or_fewer_signs(self):
        for length in range(8):
            for signs in itertools.product("012- ", repeat=length):
                text = "".join(signs)
                try:
                    written = shown(unfolded(text))
                except NoRow:
                    continue
                self.assertLessEqual(len(written), len(text), text)
                self.assertLessEqual(len(written.split(" ")), len(text.split(" ")), text)


class TestTheAskersOwn(RowsTest):
    def test_changing_what_was_told_changes_nothing(self):
        for text in ("", "0-3-1", "2*(0 2*(1))"):
            told = unfolded(text)
            kept = list(told)
            told.append(77)
            told[0] = 55
            self.assertEqual(unfolded(text), kept)
            self.assertEqual(size_of(text), len(kept))

    def test_no_two_answers_are_one_list(self):
        self.assertIsNot(unfolded("0-3"), unfolded("0-3"))
        self.assertIsNot(unfolded(""), unfolded(""))

    def test_a_refusal_leaves_nothing_behind(self):
        for text in ("1-", "5*(0-99)", nested(9, "1")):
            with self.assertRaises(WeaveError):
                unfolded(text)
            self.assertEqual(unfolded("1 2"), [1, 2])

    def test_kinds(self):
        self.assertIs(type(unfolded("1-2 3")), list)
        self.assertTrue(all(type(number) is int for number in unfolded("0-2 1*(3)")))
        self.assertIs(type(size_of("1*(1)")), int)
        self.assertIs(type(size_of("")), int)
        self.assertIs(type(shown([])), str)


if __name__ == "__main__":
    unittest.main()
