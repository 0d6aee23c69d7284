"""The reading of a text sign by sign, on which points 11 to 13 rest."""

import unittest

from heddle.reading import Reader, number_of


class TestReader(unittest.TestCase):
    def test_an_empty_text_has_ended(self):
        self.assertTrue(Reader("").ended())
        self.assertFalse(Reader("a").ended())

    def test_took_goes_past_what_it_takes_alone(self):
        reader = Reader("ab*(")
        self.assertFalse(reader.took("b"))
        self.assertFalse(reader.took("abc"))
        self.assertTrue(reader.took("a"))
        self.assertTrue(reader.took("b"))
        self.assertFalse(reader.ended())
        self.assertTrue(reader.took("*("))
        self.assertTrue(reader.ended())
        self.assertFalse(reader.took("a"))

    def test_took_takes_no_half_of_what_is_wanted(self):
        reader = Reader("*")
        self.assertFalse(reader.took("*("))
        self.assertTrue(reader.took("*"))

    def test_stretch_reads_as_many_of_the_signs_as_come_next(self):
        reader = Reader("ab##.a ")
        self.assertEqual(reader.stretch("#."), "")
        self.assertEqual(reader.stretch("abc"), "ab")
        self.assertEqual(reader.stretch("#."), "##.")
        self.assertEqual(reader.stretch("ab "), "a ")
        self.assertTrue(reader.ended())
        self.assertEqual(reader.stretch("ab "), "")

    def test_number_reads_all_figures_that_come_next(self):
        reader = Reader("7-99 0")
        self.assertEqual(reader.number(), 7)
        self.assertTrue(reader.took("-"))
        self.assertEqual(reader.number(), 99)
        self.assertTrue(reader.took(" "))
        self.assertEqual(reader.number(), 0)
        self.assertTrue(reader.ended())
        self.assertIsNone(reader.number())

    def test_number_reads_every_number_from_0_to_99(self):
        for number in range(100):
            self.assertEqual(Reader(str(number)).number(), number)

    def test_figures_that_write_no_number(self):
        for figures in ("", "00", "01", "09", "000", "007", "100", "999", "1" * 4000):
            self.assertIsNone(Reader(figures).number(), figures[:9])
            self.assertIsNone(number_of(figures), figures[:9])

    def test_no_number_stands_where_no_figure_comes_next(self):
        for text in ("-1", " 1", "a1", "/", ":"):
            self.assertIsNone(Reader(text).number(), text)


if __name__ == "__main__":
    unittest.main()
