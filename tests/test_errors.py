import unittest

from boardsight import errors

WITH_WORDS = ["NoNumber", "NoSpot", "NoPlane", "NoBoard", "NoFrame", "TooMany", "NoName", "NoDeed"]
WITH_NUMBERS = ["NotFree", "NoText"]


class ErrorsTest(unittest.TestCase):
    def test_any_refusal_is_a_value_error(self):
        self.assertEqual(errors.SightError.__bases__, (ValueError,))

    def test_ten_classes_straight_under_it(self):
        for name in WITH_WORDS + WITH_NUMBERS:
            self.assertEqual(getattr(errors, name).__bases__, (errors.SightError,), name)
            self.assertEqual(getattr(errors, name).__subclasses__(), [], name)
        self.assertEqual(len(errors.SightError.__subclasses__()), 10)

    def test_made_with_a_text(self):
        for name in WITH_WORDS:
            made = getattr(errors, name)("some words")
            self.assertEqual(str(made), "some words")
            self.assertIsInstance(made, ValueError)

    def test_not_free_keeps_its_board(self):
        for number in (0, 1, 27):
            self.assertEqual(errors.NotFree(number).board, number)
        with self.assertRaises(errors.SightError) as caught:
            raise errors.NotFree(3)
        self.assertEqual(caught.exception.board, 3)

    def test_no_text_keeps_its_row(self):
        for number in (0, 1, 27):
            self.assertEqual(errors.NoText(number).row, number)
        with self.assertRaises(errors.SightError) as caught:
            raise errors.NoText(4)
        self.assertEqual(caught.exception.row, 4)


if __name__ == "__main__":
    unittest.main()
