import copy
import unittest

from noteboard.errors import BoardError, NoLine, NoRow, NotReady, TooMany


class ErrorsTest(unittest.TestCase):
    def test_base_is_straight_under_value_error(self):
        self.assertEqual(BoardError.__bases__, (ValueError,))

    def test_each_refusal_is_straight_under_the_base(self):
        for refusal in (NoLine, NotReady, TooMany, NoRow):
            with self.subTest(refusal=refusal):
                self.assertEqual(refusal.__bases__, (BoardError,))

    def test_no_refusal_is_under_another(self):
        refusals = (NoLine, NotReady, TooMany, NoRow)
        for one in refusals:
            for other in refusals:
                with self.subTest(one=one, other=other):
                    self.assertIs(issubclass(one, other), one == other)

    def test_no_line_has_its_fields(self):
        error = NoLine(3, 5)
        self.assertEqual((error.line, error.word), (3, 5))
        error = NoLine(0, 0)
        self.assertEqual((error.line, error.word), (0, 0))

    def test_not_ready_has_its_field(self):
        self.assertEqual(NotReady(0).place, 0)
        self.assertEqual(NotReady(399).place, 399)

    def test_each_object_has_fields_of_its_own(self):
        one = NoLine(1, 2)
        other = NoLine(3, 4)
        first = NotReady(5)
        second = NotReady(6)
        self.assertEqual((one.line, one.word, other.line, other.word), (1, 2, 3, 4))
        self.assertEqual((first.place, second.place), (5, 6))

    def test_made_of_any_text(self):
        for text in ("", "more than 2,000", "a\nb"):
            self.assertIsInstance(TooMany(text), TooMany)
            self.assertIsInstance(NoRow(text), NoRow)

    def test_taken_as_the_base_and_as_themselves(self):
        for error in (NoLine(1, 2), NotReady(1), TooMany("t"), NoRow("t")):
            with self.subTest(error=error):
                with self.assertRaises(ValueError):
                    raise error
                with self.assertRaises(BoardError):
                    raise error
                with self.assertRaises(error.__class__):
                    raise error

    def test_copies_keep_the_fields(self):
        line = copy.deepcopy(NoLine(3, 5))
        self.assertEqual((line.line, line.word), (3, 5))
        self.assertEqual(copy.deepcopy(NotReady(7)).place, 7)


if __name__ == "__main__":
    unittest.main()
