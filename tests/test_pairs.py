"""[5] Whole numbers and pairs, added and multiplied."""

import unittest

from oddbases.pairs import added, multiplied
from samples import HUGE, VAST

WHOLE = (0, 1, -1, 2, -3, 10, 61, -HUGE, HUGE, VAST, -VAST)
PAIRS = ((0, 0), (1, 0), (0, 1), (-1, 1), (3, -4), (-9, 1), (HUGE, -VAST), (-VAST, HUGE + 5), (7, -HUGE))


class Checks(unittest.TestCase):
    def assert_whole(self, got, wanted):
        self.assertIs(type(got), int)
        self.assertEqual(got, wanted)

    def assert_pair(self, got, wanted):
        self.assertIs(type(got), tuple)
        self.assertEqual([type(thing) for thing in got], [int, int])
        self.assertEqual(got, wanted)


class Added(Checks):
    def test_known_sums(self):
        self.assert_whole(added(2, 3), 5)
        self.assert_whole(added(2, -3), -1)
        self.assert_pair(added((1, 2), (3, 4)), (4, 6))
        self.assert_pair(added((1, 2), (-1, -2)), (0, 0))
        self.assert_pair(added((1, 2), 5), (6, 2))
        self.assert_pair(added(5, (1, 2)), (6, 2))
        self.assert_pair(added((0, 0), 0), (0, 0))

    def test_whole_numbers(self):
        for one in WHOLE:
            for other in WHOLE:
                self.assert_whole(added(one, other), one + other)

    def test_pairs(self):
        for a, b in PAIRS:
            for c, d in PAIRS:
                self.assert_pair(added((a, b), (c, d)), (a + c, b + d))

    def test_a_pair_and_a_whole_number_either_way_round(self):
        for a, b in PAIRS:
            for number in WHOLE:
                self.assert_pair(added((a, b), number), (a + number, b))
                self.assert_pair(added(number, (a, b)), (a + number, b))


class Multiplied(Checks):
    def test_known_products(self):
        self.assert_whole(multiplied(2, -3), -6)
        self.assert_pair(multiplied((1, 2), (3, 4)), (-5, 10))
        self.assert_pair(multiplied((0, 1), (0, 1)), (-1, 0))
        self.assert_pair(multiplied((2, -3), (2, 3)), (13, 0))
        self.assert_pair(multiplied((1, 2), -5), (-5, -10))
        self.assert_pair(multiplied(-5, (1, 2)), (-5, -10))
        self.assert_pair(multiplied(0, (1, 2)), (0, 0))

    def test_whole_numbers(self):
        for one in WHOLE:
            for other in WHOLE:
                self.assert_whole(multiplied(one, other), one * other)

    def test_pairs(self):
        for a, b in PAIRS:
            for c, d in PAIRS:
                self.assert_pair(multiplied((a, b), (c, d)), (a * c - b * d, a * d + b * c))

    def test_a_pair_and_a_whole_number_either_way_round(self):
        for a, b in PAIRS:
            for number in WHOLE:
                self.assert_pair(multiplied((a, b), number), (a * number, b * number))
                self.assert_pair(multiplied(number, (a, b)), (a * number, b * number))


if __name__ == "__main__":
    unittest.main()
