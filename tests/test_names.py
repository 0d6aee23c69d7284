"""Point 102: names."""

import unittest

from heddle.names import is_name

WORDS = "rows twill satin beside above mirror upend back quarter tile blocks lay".split()


class TestNames(unittest.TestCase):
    def test_names(self):
        for text in ("a", "z", "plain", "abcdefghijklmnopqrst", "uvwxyz", "row", "lays", "name", "z" * 20):
            self.assertIs(is_name(text), True, text)

    def test_others(self):
        for text in ("", " ", "a b", " a", "a ", "A", "aB", "a1", "1", "a_", "a-b", "#", "a.", "a" * 21, "a" * 4000,
                     "{", "`", "a=", "?"):
            self.assertIs(is_name(text), False, text[:30])

    def test_the_twelve_words(self):
        self.assertEqual(len(WORDS), 12)
        for word in WORDS:
            self.assertIs(is_name(word), False, word)
            self.assertIs(is_name(word + "a"), True, word)


if __name__ == "__main__":
    unittest.main()
