"""Point 5: the refusals."""

import unittest

from samewise import errors

REFUSALS = (
    errors.NoTree, errors.NoRule, errors.NoRow, errors.Full, errors.Apart, errors.TooBig, errors.TooWide,
)


class Refusals(unittest.TestCase):
    def test_same_error_is_a_value_error(self):
        self.assertTrue(issubclass(errors.SameError, ValueError))

    def test_each_stands_under_same_error_and_is_another_class(self):
        for refusal in REFUSALS:
            self.assertTrue(issubclass(refusal, errors.SameError), refusal)
            self.assertIsNot(refusal, errors.SameError)

    def test_none_stands_under_another(self):
        for one in REFUSALS:
            for other in REFUSALS:
                self.assertEqual(issubclass(one, other), one is other, (one, other))

    def test_the_names_are_those_of_the_interface(self):
        self.assertEqual(
            [refusal.__name__ for refusal in REFUSALS],
            ["NoTree", "NoRule", "NoRow", "Full", "Apart", "TooBig", "TooWide"],
        )
        self.assertEqual(len(set(REFUSALS)), 7)

    def test_a_refusal_is_made_with_a_text_and_shows_it(self):
        for refusal in REFUSALS:
            if refusal is not errors.NoRow:
                self.assertEqual(str(refusal("some words")), "some words")

    def test_no_row_keeps_its_line(self):
        self.assertEqual(errors.NoRow(1).line, 1)
        self.assertEqual(errors.NoRow(line=200).line, 200)

    def test_no_row_is_taken_by_its_name_with_its_line(self):
        with self.assertRaises(errors.NoRow) as caught:
            raise errors.NoRow(17)
        self.assertEqual(caught.exception.line, 17)

    def test_each_is_taken_as_the_common_one(self):
        for refusal in REFUSALS:
            with self.assertRaises(errors.SameError):
                raise refusal(3 if refusal is errors.NoRow else "three")


if __name__ == "__main__":
    unittest.main()
