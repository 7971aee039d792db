import unittest

from rankyard.errors import NoHead, NoLine, RankError


class ErrorsTest(unittest.TestCase):
    def test_every_refusal_is_a_rank_error(self):
        self.assertEqual(RankError.__bases__, (ValueError,))
        self.assertTrue(issubclass(NoHead, RankError))
        self.assertTrue(issubclass(NoLine, RankError))

    def test_no_refusal_stands_under_the_other(self):
        self.assertFalse(issubclass(NoHead, NoLine))
        self.assertFalse(issubclass(NoLine, NoHead))
        self.assertFalse(issubclass(RankError, NoHead))
        self.assertFalse(issubclass(RankError, NoLine))

    def test_they_are_raised_and_taken(self):
        for refusal in (RankError, NoHead, NoLine):
            for taken in (refusal, RankError, ValueError):
                with self.assertRaises(taken):
                    raise refusal("some words")
        with self.assertRaises(NoHead):
            try:
                raise NoHead("some words")
            except NoLine:
                self.fail("NoHead was taken as NoLine")


if __name__ == "__main__":
    unittest.main()
