import unittest

from leastloss.errors import (
    LossError, Lost, NoBook, NoMachine, NoPlay, NoSaying, NoText, NoTurns, TooBig,
)

REFUSALS = (NoSaying, NoBook, NoPlay, Lost, NoMachine, NoTurns, TooBig, NoText)


class Errors(unittest.TestCase):
    def test_a_loss_error_is_a_value_error(self):
        self.assertTrue(issubclass(LossError, ValueError))

    def test_each_refusal_is_a_loss_error(self):
        for refusal in REFUSALS:
            with self.subTest(refusal=refusal.__name__):
                self.assertTrue(issubclass(refusal, LossError))
                self.assertIsNot(refusal, LossError)
                with self.assertRaises(LossError):
                    raise refusal("words")

    def test_no_refusal_is_another_one(self):
        for one in REFUSALS:
            for other in REFUSALS:
                if one is not other:
                    with self.subTest(one=one.__name__, other=other.__name__):
                        self.assertFalse(issubclass(one, other))

    def test_there_are_eight_under_their_names(self):
        self.assertEqual(
            [refusal.__name__ for refusal in REFUSALS],
            ["NoSaying", "NoBook", "NoPlay", "Lost", "NoMachine", "NoTurns", "TooBig", "NoText"],
        )
        self.assertEqual(len(set(REFUSALS)), 8)


if __name__ == "__main__":
    unittest.main()
