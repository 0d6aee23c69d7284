"""Points 5 and 113: the refusals and their names."""

import unittest

from heddle import errors

NAMES = ["NoRow", "TooLarge", "NoCloth", "NoDraft", "NoStrand", "NoDeed", "NoLaying", "NoShuttle",
         "NoColour", "NoBlock", "NoPattern", "Unknown", "Twice"]
REFUSALS = [getattr(errors, name) for name in NAMES]


class TestRefusals(unittest.TestCase):
    def test_there_are_thirteen(self):
        self.assertEqual(len(set(REFUSALS)), 13)

    def test_each_is_taken_as_a_weave_error_and_as_a_value_error(self):
        for refusal in REFUSALS:
            for taken_as in (refusal, errors.WeaveError, ValueError):
                with self.subTest(refusal=refusal, taken_as=taken_as):
                    with self.assertRaises(taken_as):
                        raise refusal("words")

    def test_none_stands_under_another(self):
        for one in REFUSALS:
            for other in REFUSALS:
                if one is not other:
                    self.assertFalse(issubclass(one, other), (one, other))

    def test_weave_error_is_a_value_error_and_no_one_refusal(self):
        self.assertTrue(issubclass(errors.WeaveError, ValueError))
        for refusal in REFUSALS:
            self.assertFalse(issubclass(errors.WeaveError, refusal))

    def test_called_tells_the_name_of_the_class(self):
        for name, refusal in zip(NAMES, REFUSALS):
            self.assertEqual(refusal.__name__, name)
            self.assertEqual(refusal().called(), name)
            self.assertEqual(refusal("other words").called(), name)
            self.assertIs(type(refusal().called()), str)

    def test_weave_error_is_called_by_its_name(self):
        self.assertEqual(errors.WeaveError("words").called(), "WeaveError")

    def test_a_raised_refusal_tells_its_name_where_any_refusal_is_taken(self):
        for name, refusal in zip(NAMES, REFUSALS):
            try:
                raise refusal("words")
            except errors.WeaveError as e:
                self.assertEqual(e.called(), name)


if __name__ == "__main__":
    unittest.main()
