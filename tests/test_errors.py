"""Which error stands under which."""

import unittest

from sumplace.errors import NoCommand, NoNumber, NoPlace, NoSide, NoText, SumError

REFUSALS = (NoPlace, NoSide, NoNumber, NoText, NoCommand)


class TestErrors(unittest.TestCase):
    def test_sum_error_is_a_value_error(self):
        self.assertTrue(issubclass(SumError, ValueError))

    def test_each_stands_under_sum_error(self):
        for refusal in REFUSALS:
            with self.subTest(refusal.__name__):
                self.assertTrue(issubclass(refusal, SumError))
                self.assertIsNot(refusal, SumError)
                self.assertFalse(issubclass(SumError, refusal))

    def test_none_of_the_five_stands_under_another(self):
        for one in REFUSALS:
            for other in REFUSALS:
                with self.subTest(one=one.__name__, other=other.__name__):
                    self.assertEqual(issubclass(one, other), one is other)

    def test_raised_each_is_caught_by_its_own_name_and_those_above(self):
        for refusal in REFUSALS:
            for name in (refusal, SumError, ValueError):
                with self.subTest(refusal=refusal.__name__, name=name.__name__):
                    with self.assertRaises(name):
                        raise refusal("refused")

    def test_raised_none_is_caught_by_the_name_of_another(self):
        for refusal in REFUSALS:
            others = tuple(other for other in REFUSALS if other is not refusal)
            with self.subTest(refusal.__name__):
                try:
                    raise refusal("refused")
                except others:
                    self.fail("caught as another one of the five")
                except SumError as caught:
                    self.assertIs(type(caught), refusal)


if __name__ == "__main__":
    unittest.main()
