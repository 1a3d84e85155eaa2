import unittest

from drawnweb import errors
from drawnweb.errors import Lacks, NoBack, NoDeed, NoLine, NoText, NoWall, OfKind, WebError

WITH_TEXT = (OfKind, NoWall, NoBack, NoText, NoLine, Lacks)


class Errors(unittest.TestCase):
    def test_web_error_stands_straight_under_value_error(self):
        self.assertEqual(WebError.__bases__, (ValueError,))

    def test_each_stands_straight_under_web_error(self):
        for refusal in WITH_TEXT + (NoDeed,):
            self.assertEqual(refusal.__bases__, (WebError,))

    def test_none_is_under_another(self):
        every = [thing for thing in vars(errors).values() if isinstance(thing, type) and thing != WebError]
        self.assertEqual(set(every), set(WITH_TEXT + (NoDeed,)))
        for one in every:
            for other in every:
                self.assertEqual(issubclass(one, other), one == other)

    def test_made_with_a_text(self):
        for refusal in WITH_TEXT + (WebError,):
            with self.assertRaises(WebError) as caught:
                raise refusal("why")
            self.assertEqual(str(caught.exception), "why")

    def test_number_is_kept(self):
        for number in (0, 1, 59):
            self.assertEqual(NoDeed(number).number, number)
            with self.assertRaises(NoDeed) as caught:
                raise NoDeed(number)
            self.assertEqual(caught.exception.number, number)


if __name__ == "__main__":
    unittest.main()
