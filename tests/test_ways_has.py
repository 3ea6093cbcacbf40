"""[6] The numbers that a way has; [2] what a whole number and a pair are."""

import unittest

from oddbases.ways import Balanced, Below, Falling, Growing, Pairs, Plain
from samples import ALL, HUGE, VAST, told, ways_of

BELOW_NOUGHT = (-1, -2, -61, -HUGE, -VAST)
FROM_NOUGHT_ON = (0, 1, 2, 61, HUGE, VAST)
PAIRS = ((0, 0), (1, 0), (0, 1), (-1, 0), (0, -1), (-3, 4), (5, -HUGE), (VAST, HUGE))


class Has(unittest.TestCase):
    def assert_has(self, way, numbers, wanted):
        for number in numbers:
            with self.subTest(way=told(way), number=number):
                self.assertIs(way.has(number), wanted)

    def test_plain_growing_and_falling_have_whole_numbers_from_nought_on(self):
        for way in ways_of(Plain, Growing, Falling):
            self.assert_has(way, FROM_NOUGHT_ON, True)
            self.assert_has(way, BELOW_NOUGHT + PAIRS, False)

    def test_below_and_balanced_have_all_whole_numbers(self):
        for way in ways_of(Below, Balanced):
            self.assert_has(way, FROM_NOUGHT_ON + BELOW_NOUGHT, True)
            self.assert_has(way, PAIRS, False)

    def test_pairs_has_all_pairs_and_no_whole_number(self):
        for way in ways_of(Pairs):
            self.assert_has(way, PAIRS, True)
            self.assert_has(way, FROM_NOUGHT_ON + BELOW_NOUGHT, False)

    def test_a_truth_is_no_whole_number(self):
        for way in ways_of(*ALL):
            self.assert_has(way, (True, False, (True, 0), (0, False)), False)


if __name__ == "__main__":
    unittest.main()
