import unittest

from spantolls.errors import BadDays, BadRequests, BadRooms, BadText, SpanError


class ErrorClasses(unittest.TestCase):
    def test_span_error_is_straight_under_value_error(self):
        self.assertEqual(SpanError.__bases__, (ValueError,))

    def test_each_refusal_is_straight_under_span_error(self):
        for refusal in (BadRequests, BadRooms, BadDays, BadText):
            with self.subTest(refusal=refusal.__name__):
                self.assertEqual(refusal.__bases__, (SpanError,))

    def test_names_are_as_they_stand_in_the_interface(self):
        names = [one.__name__ for one in (SpanError, BadRequests, BadRooms, BadDays, BadText)]
        self.assertEqual(names, ["SpanError", "BadRequests", "BadRooms", "BadDays", "BadText"])

    def test_each_can_be_raised_and_taken_as_a_span_error(self):
        for refusal in (BadRequests, BadRooms, BadDays, BadText):
            with self.subTest(refusal=refusal.__name__):
                with self.assertRaises(SpanError) as told:
                    raise refusal("words")
                self.assertIs(type(told.exception), refusal)


if __name__ == "__main__":
    unittest.main()
