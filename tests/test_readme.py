"""The examples of README.md answer as it says."""

import doctest
import pathlib
import unittest

README = pathlib.Path(__file__).resolve().parent.parent / "README.md"


class TestReadme(unittest.TestCase):
    def test_its_examples(self):
        outcome = doctest.testfile(str(README), module_relative=False)
        self.assertGreater(outcome.attempted, 0)
        self.assertEqual(outcome.failed, 0)


if __name__ == "__main__":
    unittest.main()
