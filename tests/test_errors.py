"""The refusals, as the interface names them."""

import unittest

from fencefield.errors import FenceError, NoFence, NoTurning, TooWide


class Refusals(unittest.TestCase):
    def test_any_refusal_is_a_value_error(self):
        self.assertEqual(FenceError.__bases__, (ValueError,))

    def test_each_stands_straight_beneath_it(self):
        for refusal in (NoFence, NoTurning, TooWide):
            self.assertEqual(refusal.__bases__, (FenceError,))

    def test_none_stands_beneath_another(self):
        refusals = (NoFence, NoTurning, TooWide)
        for one in refusals:
            for other in refusals:
                self.assertEqual(issubclass(one, other), one is other)

    def test_they_can_be_raised_with_words(self):
        for refusal in (FenceError, NoFence, NoTurning, TooWide):
            with self.assertRaises(ValueError):
                raise refusal("words")


if __name__ == "__main__":
    unittest.main()
